import Derived.Test.YtmbapmbpnnaanabDoorProg
import Derived.WalkKit
import Derived.WalkSpells
import Derived.WalkLawsBesides
import Derived.BigQuiet
import Derived.Deep.QuietTactic
import Derived.Handy
namespace Go.Proofs.YtmbapmbpnnaanabDoor
open Go.RowKit

/-- The reader in block b: the text, the place, bad. -/
def Rd (w : World) (b : Nat) (s : ByteArray) (k : Nat) (bad : Bool) : Prop := w.heap[b]? = some (.cells #[.string s, .int .i64 (k : Int), .bool bad] 42 (0, 0))

theorem Rd.c0 {w b s k bad} (h : Rd w b s k bad) : w.cell? ⟨b, 0, none⟩ = some (.string s) := by simp [World.cell?, show w.heap[b]? = _ from h]
theorem Rd.c1 {w b s k bad} (h : Rd w b s k bad) : w.cell? ⟨b, 1, none⟩ = some (.int .i64 (k : Int)) := by simp [World.cell?, show w.heap[b]? = _ from h]
theorem Rd.c2 {w b s k bad} (h : Rd w b s k bad) : w.cell? ⟨b, 2, none⟩ = some (.bool bad) := by simp [World.cell?, show w.heap[b]? = _ from h]
theorem Rd.f1 {w b s k bad} (h : Rd w b s k bad) : w.frozen? ⟨b, 1, none⟩ = false := by simp [World.frozen?, show w.heap[b]? = _ from h]
theorem Rd.f2 {w b s k bad} (h : Rd w b s k bad) : w.frozen? ⟨b, 2, none⟩ = false := by simp [World.frozen?, show w.heap[b]? = _ from h]
theorem Rd.lt {w b s k bad} (h : Rd w b s k bad) : b < w.heap.size := (Array.getElem?_eq_some_iff.1 h).1
theorem Rd.set1 {w b s k bad} (h : Rd w b s k bad) (k' : Nat) : Rd (w.setCell ⟨b, 1, none⟩ (.int .i64 (k' : Int))) b s k' bad := by
  simp [Rd, World.setCell, Array.getElem?_modify, show w.heap[b]? = _ from h]
theorem Rd.set2 {w b s k bad} (h : Rd w b s k bad) : Rd (w.setCell ⟨b, 2, none⟩ (.bool true)) b s k true := by
  simp [Rd, World.setCell, Array.getElem?_modify, show w.heap[b]? = _ from h]
theorem Rd.drewN {w b s k bad} (h : Rd w b s k bad) (n : Nat) : Rd (w.drewN n) b s k bad := h

theorem grown_set (w : World) (b o : Nat) (v : Value) : w.grownBy (w.setCell ⟨b, o, none⟩ v) (some b) :=
  ⟨rfl, rfl, rfl, by simp [World.setCell], fun k _ hne => Below.heap_setCell _ _ _ _ (by intro h; exact hne (by rw [h]))⟩
theorem grown_drewN (w : World) (n : Nat) (row : Option Nat) : w.grownBy (w.drewN n) row := ⟨rfl, rfl, rfl, Nat.le_refl _, fun _ _ _ => rfl⟩
theorem grown_trans {w w1 w2 : World} {row : Option Nat} (h1 : w.grownBy w1 row) (h2 : w1.grownBy w2 row) : w.grownBy w2 row :=
  ⟨h2.os.trans h1.os, h2.tape.trans h1.tape, h2.output.trans h1.output, Nat.le_trans h1.size h2.size,
   fun k hk hne => (h2.block k (Nat.lt_of_lt_of_le hk h1.size) hne).trans (h1.block k hk hne)⟩

/-- Whether the byte c stands next. -/
def seesB (s : ByteArray) (c : UInt8) (k : Nat) (bad : Bool) : Bool := !bad && decide (s.data.toList[k]? = some c)

theorem at_none {s : ByteArray} {k : Nat} (h : s.size ≤ k) : s.data.toList[k]? = none := List.getElem?_eq_none (by simpa using h)
theorem at_some {s : ByteArray} {k : Nat} (h : k < s.size) : s.data.toList[k]? = some s[k] := by
  rw [List.getElem?_eq_getElem (by simpa using h)]; rfl
theorem sees_bad (s : ByteArray) (c : UInt8) (k : Nat) : seesB s c k true = false := rfl
theorem sees_end {s : ByteArray} {c : UInt8} {k : Nat} (bad : Bool) (h : s.size ≤ k) : seesB s c k bad = false := by
  unfold seesB; rw [at_none h]; simp
theorem sees_hit {s : ByteArray} {c : UInt8} {k : Nat} (h : k < s.size) (hc : s[k] = c) : seesB s c k false = true := by
  unfold seesB; rw [at_some h, hc]; simp
theorem sees_miss {s : ByteArray} {c : UInt8} {k : Nat} (bad : Bool) (h : k < s.size) (hc : s[k] ≠ c) : seesB s c k bad = false := by
  unfold seesB; rw [at_some h]; simp [hc]

set_option maxHeartbeats 800000 in
theorem sees_any (b : Nat) (s : ByteArray) (k : Nat) (bad : Bool) (c : UInt8) (w : World) (_hs : s.size ≤ 1048576) (hr : Rd w b s k bad) :
    Calls Tryd.prog 31 #[.pointer (some ⟨b, 0, none⟩), .int .u8 (c.toNat : Int)] w fun e w' => e = .returned (.bool (seesB s c k bad)) ∧ ∃ n, w' = w.drewN n := by
  have c0 := hr.c0
  have c1 := hr.c1
  have c2 := hr.c2
  clear hr
  cases bad with
  | true =>
    rw [sees_bad]
    go_enter Tryd.func31, Tryd.ntmps31
    go_wp2
    go_quiet (fail)
    go_wp2
    go_ret
    exact ⟨rfl, _, rfl⟩
  | false =>
    by_cases hk : k < s.size
    · have hi : (k : Int) < (s.size : Int) := by omega
      have hi0 : (0 : Int) ≤ (k : Int) := by omega
      have hd : decide (k < s.size) = true := decide_eq_true hk
      by_cases hc : s[k] = c
      · have e : seesB s c k false = true := sees_hit hk hc
        rw [e]
        have hne : ((s[k].toNat : Int) == (c.toNat : Int)) = true := by rw [hc]; simp
        clear e hc
        go_enter Tryd.func31, Tryd.ntmps31
        go_wp2
        go_quiet (fail)
        go_wp2
        go_ret
        exact ⟨rfl, _, rfl⟩
      · have e : seesB s c k false = false := sees_miss false hk hc
        rw [e]
        have hne : ((s[k].toNat : Int) == (c.toNat : Int)) = false := by
          rw [beq_eq_false_iff_ne]
          intro h
          exact hc (UInt8.toNat_inj.1 (by omega))
        clear e hc
        go_enter Tryd.func31, Tryd.ntmps31
        go_wp2
        go_quiet (fail)
        go_wp2
        go_ret
        exact ⟨rfl, _, rfl⟩
    · have e : seesB s c k false = false := sees_end false (by omega)
      rw [e]
      have hi : (s.size : Int) ≤ (k : Int) := by omega
      have hd : decide (k < s.size) = false := decide_eq_false hk
      clear e
      go_enter Tryd.func31, Tryd.ntmps31
      go_wp2
      go_quiet (fail)
      go_wp2
      go_ret
      exact ⟨rfl, _, rfl⟩

/-- What 'Take' does to place and bad. -/
def signM (s : ByteArray) (c : UInt8) (k : Nat) (bad : Bool) : Nat × Bool := if seesB s c k bad = true then (k + 1, bad) else (k, true)

theorem sees_lt {s : ByteArray} {c : UInt8} {k : Nat} {bad : Bool} (h : seesB s c k bad = true) : k < s.size := by
  rcases Nat.lt_or_ge k s.size with h2 | h2
  · exact h2
  · rw [sees_end bad h2] at h; cases h

set_option maxHeartbeats 400000 in
theorem sign_any (b : Nat) (s : ByteArray) (k : Nat) (bad : Bool) (c : UInt8) (w : World) (hs : s.size ≤ 1048576) (hr : Rd w b s k bad) :
    Calls Tryd.prog 20 #[.pointer (some ⟨b, 0, none⟩), .int .u8 (c.toNat : Int)] w fun e w' => e = .returned (.tuple #[]) ∧ Rd w' b s (signM s c k bad).1 (signM s c k bad).2 ∧ w.grownBy w' (some b) := by
  have c1 := hr.c1
  have f1 := hr.f1
  have c2 := hr.c2
  have f2 := hr.f2
  have hsee := sees_any b s k bad c w hs hr
  have HR : Hid (Rd w b s k bad) := hr
  clear hr
  cases hS : seesB s c k bad with
  | true =>
    have hk := sees_lt hS
    have HM : Hid (signM s c k bad = (k + 1, bad)) := by
      show signM s c k bad = (k + 1, bad)
      unfold signM
      rw [hS, if_pos rfl]
    rw [hS] at hsee
    clear hS
    go_enter Tryd.func20, Tryd.ntmps20
    go_wp2_with fail
    refine hsee.mono ?_
    rintro e w1 ⟨rfl, n, rfl⟩
    clear hsee
    go_wp2
    go_end0
    rw [HM.out]
    exact ⟨rfl, (HR.out.drewN _).set1 (k + 1), grown_trans (grown_drewN _ _ _) (grown_set _ _ _ _)⟩
  | false =>
    have HM : Hid (signM s c k bad = (k, true)) := by
      show signM s c k bad = (k, true)
      unfold signM
      rw [hS, if_neg (by simp)]
    rw [hS] at hsee
    clear hS
    go_enter Tryd.func20, Tryd.ntmps20
    go_wp2_with fail
    refine hsee.mono ?_
    rintro e w1 ⟨rfl, n, rfl⟩
    clear hsee
    go_wp2
    go_returns
    rw [HM.out]
    exact ⟨rfl, (HR.out.drewN _).set2, grown_trans (grown_drewN _ _ _) (grown_set _ _ _ _)⟩

set_option maxHeartbeats 400000 in
theorem skip_any (b : Nat) (s : ByteArray) (k : Nat) (bad : Bool) (c : UInt8) (w : World) (hs : s.size ≤ 1048576) (hr : Rd w b s k bad) :
    Calls Tryd.prog 28 #[.pointer (some ⟨b, 0, none⟩), .int .u8 (c.toNat : Int)] w fun e w' => e = .returned (.bool (seesB s c k bad)) ∧ Rd w' b s (if seesB s c k bad = true then k + 1 else k) bad ∧ w.grownBy w' (some b) := by
  have c1 := hr.c1
  have f1 := hr.f1
  have hsee := sees_any b s k bad c w hs hr
  have HR : Hid (Rd w b s k bad) := hr
  clear hr
  cases hS : seesB s c k bad with
  | true =>
    have hk := sees_lt hS
    rw [hS] at hsee
    clear hS
    go_enter Tryd.func28, Tryd.ntmps28
    go_wp2_with fail
    refine hsee.mono ?_
    rintro e w1 ⟨rfl, n, rfl⟩
    clear hsee
    go_wp2
    go_ret
    exact ⟨rfl, (HR.out.drewN _).set1 (k + 1), grown_trans (grown_drewN _ _ _) (grown_set _ _ _ _)⟩
  | false =>
    rw [hS] at hsee
    clear hS
    go_enter Tryd.func28, Tryd.ntmps28
    go_wp2_with fail
    refine hsee.mono ?_
    rintro e w1 ⟨rfl, n, rfl⟩
    clear hsee
    go_wp2
    go_ret
    exact ⟨rfl, HR.out.drewN _, grown_drewN _ _ _⟩

theorem fail_any (b : Nat) (s : ByteArray) (k : Nat) (bad : Bool) (w : World) (hr : Rd w b s k bad) :
    Calls Tryd.prog 30 #[.pointer (some ⟨b, 0, none⟩)] w fun e w' => e = .returned (.tuple #[]) ∧ Rd w' b s k true ∧ w.grownBy w' (some b) := by
  have c2 := hr.c2
  have f2 := hr.f2
  have HR : Hid (Rd w b s k bad) := hr
  clear hr
  go_enter Tryd.func30, Tryd.ntmps30
  go_wp2
  go_end0
  exact ⟨rfl, HR.out.set2, grown_set _ _ _ _⟩

theorem isBad_any (b : Nat) (s : ByteArray) (k : Nat) (bad : Bool) (w : World) (hr : Rd w b s k bad) :
    Calls Tryd.prog 14 #[.pointer (some ⟨b, 0, none⟩)] w fun e w' => e = .returned (.bool bad) ∧ w' = w := by
  have c2 := hr.c2
  clear hr
  go_enter Tryd.func14, Tryd.ntmps14
  go_wp2
  go_ret
  exact ⟨rfl, rfl⟩

theorem left_any (b : Nat) (s : ByteArray) (k : Nat) (bad : Bool) (w : World) (hs : s.size ≤ 1048576) (hk : k ≤ s.size) (hr : Rd w b s k bad) :
    Calls Tryd.prog 12 #[.pointer (some ⟨b, 0, none⟩)] w fun e w' => e = .returned (.int .i64 ((s.size : Int) - (k : Int))) ∧ ∃ n, w' = w.drewN n := by
  have c0 := hr.c0
  have c1 := hr.c1
  clear hr
  go_enter Tryd.func12, Tryd.ntmps12
  go_wp2
  go_quiet (fail)
  go_wp2
  go_ret
  exact ⟨rfl, _, rfl⟩

theorem new_any (s : ByteArray) (w : World) :
    Calls Tryd.prog 11 #[.string s] w fun e w' => e = .returned (.agg #[.string s, .int .i64 0, .bool false]) ∧ Below w.heap.size w w' := by
  go_enter Tryd.func11, Tryd.ntmps11
  go_wp2
  refine bodyPost_ret (v := .agg #[.string s, .int .i64 0, .bool false]) (by simp [results, Tryd.results11, go_sem]) rfl ⟨rfl, ?_⟩
  exact (Below.refl _ _).alloc (Nat.le_refl _) _
end Go.Proofs.YtmbapmbpnnaanabDoor
