import Derived.Test.YtmbapmbpnnaanabDoorL
namespace Go.Proofs.YtmbapmbpnnaanabDoor
open Go.RowKit

def oneB (x : Nat) : Bool := ((x : Int) != 256) && (bits .and .i64 (x : Int) ((x : Int) - 1) == 0)

theorem isOne_any (x : Nat) (w : World) (hx : x < 512) : Calls Tryd.prog 23 #[.int .i64 (x : Int)] w fun e w' => e = .returned (.bool (oneB x)) ∧ w' = w := by
  by_cases h : ((x : Int) != 256) = true
  · have e : oneB x = (bits .and .i64 (x : Int) ((x : Int) - 1) == 0) := by unfold oneB; rw [h]; rfl
    rw [e]
    go_enter Tryd.func23, Tryd.ntmps23
    go_wp2
    go_ret
    exact ⟨rfl, rfl⟩
  · have hf : ((x : Int) != 256) = false := by simpa using h
    have e : oneB x = false := by unfold oneB; rw [hf]; rfl
    rw [e]
    clear h
    go_enter Tryd.func23, Tryd.ntmps23
    go_wp2
    go_ret
    exact ⟨rfl, rfl⟩

set_option maxHeartbeats 1000000 in
theorem isEarly_any (v : Value) (sts : List St) (w : World) (hst : Sts w v sts) (h0 : 0 < sts.length) (hl : sts.length ≤ 200) (hin : Within sts) :
    Calls Tryd.prog 16 #[v] w fun e w' => (∃ sets, Good sts sets ∧ Fixed sts sets ∧ e = .returned (.bool (!(sets.any oneB)))) ∧ Below w.heap.size w w' := by
  have hcall := beginnings_any v sts w hst h0 hl hin
  clear hst hin
  go_enter Tryd.func16, Tryd.ntmps16
  go_wp2_with fail
  refine hcall.mono ?_
  rintro e w1 ⟨sets, v', rfl, hints, hgood, hfix, hb⟩
  clear hcall
  obtain ⟨g, cap, rfl, hg, hcap⟩ := hints.form (by rw [hgood.len]; exact h0)
  obtain ⟨n, hn⟩ : ∃ n, n = sets.length := ⟨_, rfl⟩
  rw [← hn] at hints hcap ⊢
  have hn200 : n ≤ 200 := by rw [hn, hgood.len]; exact hl
  have HN : Hid (n = sets.length) := hn
  have HG : Hid (Good sts sets) := hgood
  have HF : Hid (Fixed sts sets) := hfix
  clear hn hgood hfix
  go_wp2
  go_loop [8] (fun ii => ∃ i : Nat, i ≤ n ∧ ii = .int .i64 (i : Int) ∧ (sets.drop i).any oneB = sets.any oneB) (fun ii => n - (intOf ii).toNat)
  case atStart => exact ⟨0, by omega, rfl, rfl⟩
  case round =>
    obtain ⟨i, hi, rfl, hA⟩ := hrel
    have HA : Hid ((sets.drop i).any oneB = sets.any oneB) := hA
    clear hA
    by_cases hlt : i < n
    · obtain ⟨x, hx⟩ : ∃ x, sets[i]? = some x := ⟨sets[i]'(by have := HN.out; omega), List.getElem?_eq_getElem _⟩
      have cx := hints.cell i x hx
      have hx5 := HG.out.lt x (List.mem_of_getElem? hx)
      have hdr : sets.drop i = x :: sets.drop (i + 1) := by
        have h := HN.out
        rw [List.drop_eq_getElem_cons (by omega)]
        rw [List.getElem?_eq_getElem (by omega)] at hx
        rw [Option.some.inj hx]
      have HA2 : Hid ((oneB x || (sets.drop (i + 1)).any oneB) = sets.any oneB) := by
        show (oneB x || (sets.drop (i + 1)).any oneB) = sets.any oneB
        rw [← HA.out, hdr]
        rfl
      clear hdr hx HA
      cases ho : oneB x with
      | true =>
        have HE : Hid (sets.any oneB = true) := by
          show sets.any oneB = true
          rw [← HA2.out, ho]; rfl
        have HONE := isOne_any x
        rw [ho] at HONE
        have HONE2 : Hid _ := HONE
        clear HONE ho HA2
        go_wp2_with (go_at_call 23; refine (HONE2.out _ hx5).mono ?_; rintro e w' ⟨rfl, rfl⟩)
        go_ret
        exact ⟨⟨sets, HG.out, HF.out, by rw [HE.out]; rfl⟩, hb⟩
      | false =>
        have HE : Hid ((sets.drop (i + 1)).any oneB = sets.any oneB) := by
          show (sets.drop (i + 1)).any oneB = sets.any oneB
          rw [← HA2.out, ho]; rfl
        have HONE := isOne_any x
        rw [ho] at HONE
        have HONE2 : Hid _ := HONE
        clear HONE ho HA2
        go_wp2_with (go_at_call 23; refine (HONE2.out _ hx5).mono ?_; rintro e w' ⟨rfl, rfl⟩)
        go_round
        case rel => exact ⟨i + 1, by omega, by go_num, HE.out⟩
        case measure => simp [intOf]; omega
    · have HE : Hid (sets.any oneB = false) := by
        show sets.any oneB = false
        rw [← HA.out, List.drop_eq_nil_of_le (by have := HN.out; omega)]
        rfl
      go_wp2
      go_ret
      exact ⟨⟨sets, HG.out, HF.out, by rw [HE.out]; rfl⟩, hb⟩
end Go.Proofs.YtmbapmbpnnaanabDoor
