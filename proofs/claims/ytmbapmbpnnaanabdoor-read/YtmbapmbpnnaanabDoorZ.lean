import Derived.Test.YtmbapmbpnnaanabDoorY
namespace Go.Proofs.YtmbapmbpnnaanabDoor
open Go.RowKit

def oneS : ByteArray := ⟨#[45, 32, 97, 58, 48, 32, 98, 58, 48, 32, 99, 58, 48, 32, 100, 58, 48, 10]⟩
def oneSt : St := ⟨[], [[97], [98], [99], [100]], [0, 0, 0, 0]⟩
theorem one_read : readM oneS oneS.size 0 [] = some [oneSt] := by kernel_rfl
theorem one_num : isNumB [oneSt] = true := by kernel_rfl
theorem one_bg (x : Nat) : bgOf oneSt [x] = 271 := by kernel_rfl
theorem one_oneB : oneB 271 = false := by kernel_rfl
theorem one_sets (sets : List Nat) (hg : Good [oneSt] sets) (hf : Fixed [oneSt] sets) : sets.any oneB = false := by
  obtain ⟨x, rfl⟩ := len1 (hg.len : sets.length = 1)
  have := hf 0 oneSt rfl
  rw [one_bg] at this
  have hx : x = 271 := by simpa using this
  subst hx
  simp [one_oneB]

/-- A machine at m, of these states. -/
def Mach (w : World) (m : Nat) (sts : List St) : Prop := ∃ v, w.cell? ⟨m, 0, none⟩ = some v ∧ Sts w v sts ∧ 0 < sts.length ∧ sts.length ≤ 200 ∧ Within sts
def LoadPost (s : ByteArray) (w : World) (e : Ending) (w' : World) : Prop :=
  Below w.heap.size w w' ∧ ((e = .returned (.tuple #[.pointer none, .int .i64 7]) ∧ s ≠ oneS) ∨
    ∃ m sts, e = .returned (.tuple #[.pointer (some ⟨m, 0, none⟩), .int .i64 0]) ∧ Mach w' m sts ∧ textM sts = s.data.toList)

set_option maxHeartbeats 1000000 in
theorem load_any (s : ByteArray) (w : World) (hs : s.size ≤ 1048576) : Calls Tryd.prog 5 #[.string s] w fun e w' => LoadPost s w e w' := by
  have hread := readStates_any s w hs
  unfold ReadPost at hread
  cases hR : readM s s.size 0 [] with
  | none =>
    rw [hR] at hread
    have HNE : Hid (s ≠ oneS) := fun e => by rw [e, one_read] at hR; cases hR
    clear hR
    go_enter Tryd.func5, Tryd.ntmps5
    go_wp2_with fail
    refine hread.mono ?_
    rintro e w1 ⟨hb, rfl⟩
    clear hread
    go_wp2_with fail
    go_ret2
    exact ⟨hb, Or.inl ⟨rfl, HNE.out⟩⟩
  | some sts =>
    rw [hR] at hread
    simp only at hread
    have HR : Hid (readM s s.size 0 [] = some sts) := hR
    clear hR
    by_cases h0 : 0 < sts.length
    · have hd : decide (0 < sts.length) = true := decide_eq_true h0
      rw [hd] at hread
      clear hd
      go_enter Tryd.func5, Tryd.ntmps5
      go_wp2_with fail
      refine hread.mono ?_
      rintro e w1 ⟨hb, hl, v, rfl, hown⟩
      have hst : Sts w1 v sts := own_base hown (Nat.zero_le _)
      obtain ⟨g, cap, rfl, hg, hcap⟩ := hst.form h0
      have hsound := isSound_any _ sts w1 hst h0 hl
      have HST : Hid (Sts w1 (.slice (some ⟨g, 0, none⟩) sts.length cap) sts) := hst
      clear hread hown hst
      go_wp2_with fail
      refine hsound.mono ?_
      rintro e w2 ⟨⟨b, rfl, hbW, hbO⟩, hb2⟩
      have hb3 : Below w.heap.size w w2 := hb.trans (hb2.mono hb.size)
      have HST2 : Hid (Sts w2 (.slice (some ⟨g, 0, none⟩) sts.length cap) sts) := HST.out.below hb2 (Nat.le_refl _)
      clear hsound HST hb2
      cases b with
      | true =>
        have HW : Hid (Within sts) := hbW rfl
        have HTX : Hid (textM sts = s.data.toList) := round_trip s sts HR.out (hbW rfl) hl
        clear hbW hbO
        have hsz := hb3.size
        go_wp2_with fail
        go_ret2
        refine ⟨hb3.alloc hsz _, Or.inr ⟨_, sts, rfl, ⟨_, blk_cell (heap_alloc_new w2 _) 0 _ rfl, HST2.out.below ((Below.refl w2.heap.size w2).alloc (Nat.le_refl _) _) (Nat.le_refl _), h0, hl, HW.out⟩, HTX.out⟩⟩
      | false =>
        have HNE : Hid (s ≠ oneS) := fun e => by
          have hr := HR.out
          rw [e, one_read] at hr
          cases hr
          exact absurd (hbO rfl one_num one_sets) (by simp)
        clear hbW hbO
        go_wp2_with fail
        go_ret2
        exact ⟨hb3, Or.inl ⟨rfl, HNE.out⟩⟩
    · have hd : decide (0 < sts.length) = false := decide_eq_false h0
      rw [hd] at hread
      have HNE : Hid (s ≠ oneS) := fun e => by
        have hr := HR.out
        rw [e, one_read] at hr
        cases hr
        exact h0 (by simp)
      clear hd
      go_enter Tryd.func5, Tryd.ntmps5
      go_wp2_with fail
      refine hread.mono ?_
      rintro e w1 ⟨hb, hl, v, rfl, hown⟩
      clear hread
      go_wp2_with fail
      go_ret2
      exact ⟨hb, Or.inl ⟨rfl, HNE.out⟩⟩
end Go.Proofs.YtmbapmbpnnaanabDoor
