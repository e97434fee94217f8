import Derived.Test.YtakgoeofphpghabDoorProg
import Derived.WalkKit
import Derived.WalkSpells
import Derived.WalkLawsBesides
import Derived.BigQuiet
import Derived.Deep.QuietTactic
import Derived.Handy
namespace Go.Proofs.YtakgoeofphpghabDoor
open Go.RowKit

/-- The reader in block b: the text, the place, bad. -/
def Rd (w : World) (b : Nat) (s : ByteArray) (k : Nat) (bad : Bool) : Prop := w.heap[b]? = some (.cells #[.string s, .int .i64 (k : Int), .bool bad] 42 (0, 0))

theorem Rd.c0 {w b s k bad} (h : Rd w b s k bad) : w.cell? ⟨b, 0, none⟩ = some (.string s) := by simp [World.cell?, show w.heap[b]? = _ from h]
theorem Rd.c1 {w b s k bad} (h : Rd w b s k bad) : w.cell? ⟨b, 1, none⟩ = some (.int .i64 (k : Int)) := by simp [World.cell?, show w.heap[b]? = _ from h]
theorem Rd.c2 {w b s k bad} (h : Rd w b s k bad) : w.cell? ⟨b, 2, none⟩ = some (.bool bad) := by simp [World.cell?, show w.heap[b]? = _ from h]
theorem Rd.f1 {w b s k bad} (h : Rd w b s k bad) : w.frozen? ⟨b, 1, none⟩ = false := by simp [World.frozen?, show w.heap[b]? = _ from h]
theorem Rd.f2 {w b s k bad} (h : Rd w b s k bad) : w.frozen? ⟨b, 2, none⟩ = false := by simp [World.frozen?, show w.heap[b]? = _ from h]
theorem Rd.lt {w b s k bad} (h : Rd w b s k bad) : b < w.heap.size := (Array.getElem?_eq_some_iff.1 h).1
theorem Rd.set1 {w b s k bad} (h : Rd w b s k bad) (k' : Nat) : Rd (w.setCell ⟨b, 1, none⟩ (.int .i64 (k' : Int))) b s k' bad := by
  simp [Rd, World.setCell, Array.getElem?_modify, show w.heap[b]? = _ from h]
theorem Rd.set2 {w b s k bad} (h : Rd w b s k bad) : Rd (w.setCell ⟨b, 2, none⟩ (.bool true)) b s k true := by
  simp [Rd, World.setCell, Array.getElem?_modify, show w.heap[b]? = _ from h]
theorem Rd.drewN {w b s k bad} (h : Rd w b s k bad) (n : Nat) : Rd (w.drewN n) b s k bad := h

theorem grown_set (w : World) (b o : Nat) (v : Value) : w.grownBy (w.setCell ⟨b, o, none⟩ v) (some b) :=
  ⟨rfl, rfl, rfl, by simp [World.setCell], fun k _ hne => Below.heap_setCell _ _ _ _ (by intro h; exact hne (by rw [h]))⟩
theorem grown_drewN (w : World) (n : Nat) (row : Option Nat) : w.grownBy (w.drewN n) row := ⟨rfl, rfl, rfl, Nat.le_refl _, fun _ _ _ => rfl⟩
theorem grown_trans {w w1 w2 : World} {row : Option Nat} (h1 : w.grownBy w1 row) (h2 : w1.grownBy w2 row) : w.grownBy w2 row :=
  ⟨h2.os.trans h1.os, h2.tape.trans h1.tape, h2.output.trans h1.output, Nat.le_trans h1.size h2.size,
   fun k hk hne => (h2.block k (Nat.lt_of_lt_of_le hk h1.size) hne).trans (h1.block k hk hne)⟩

set_option maxHeartbeats 400000 in
theorem sign_hit (b : Nat) (s : ByteArray) (k : Nat) (bad : Bool) (c : UInt8) (w : World) (hs : s.size ≤ 1048576) (hr : Rd w b s k bad) (hk : k < s.size) (hc : s[k] = c) :
    Calls Tryd.prog 17 #[.pointer (some ⟨b, 0, none⟩), .int .u8 (c.toNat : Int)] w fun e w' => e = .returned (.tuple #[]) ∧ Rd w' b s (k + 1) bad ∧ w.grownBy w' (some b) := by
  have c0 := hr.c0
  have c1 := hr.c1
  have f1 := hr.f1
  have hi : (k : Int) < (s.size : Int) := by omega
  have hi0 : (0 : Int) ≤ (k : Int) := by omega
  have hd : decide ((s.size : Int) ≤ (k : Int)) = false := by simp; omega
  have HR : Hid (Rd w b s k bad) := hr
  clear hr
  go_enter Tryd.func17, Tryd.ntmps17
  go_wp2
  go_quiet (fail)
  go_wp2
  go_end0
  exact ⟨rfl, (HR.out.drewN _).set1 (k + 1), grown_trans (grown_drewN _ _ _) (grown_set _ _ _ _)⟩

set_option maxHeartbeats 400000 in
theorem sign_miss (b : Nat) (s : ByteArray) (k : Nat) (bad : Bool) (c : UInt8) (w : World) (_hs : s.size ≤ 1048576) (hr : Rd w b s k bad) (hk : k < s.size) (hc : s[k] ≠ c) :
    Calls Tryd.prog 17 #[.pointer (some ⟨b, 0, none⟩), .int .u8 (c.toNat : Int)] w fun e w' => e = .returned (.tuple #[]) ∧ Rd w' b s k true ∧ w.grownBy w' (some b) := by
  have c0 := hr.c0
  have c1 := hr.c1
  have c2 := hr.c2
  have f2 := hr.f2
  have hi : (k : Int) < (s.size : Int) := by omega
  have hi0 : (0 : Int) ≤ (k : Int) := by omega
  have hd : decide ((s.size : Int) ≤ (k : Int)) = false := by simp; omega
  have hne : ((s[k].toNat : Int) != (c.toNat : Int)) = true := by
    simp only [bne_iff_ne, ne_eq]
    intro h
    exact hc (UInt8.toNat_inj.1 (by omega))
  have HR : Hid (Rd w b s k bad) := hr
  clear hr hc
  go_enter Tryd.func17, Tryd.ntmps17
  go_wp2
  go_quiet (fail)
  go_wp2
  go_returns
  exact ⟨rfl, (HR.out.drewN _).set2, grown_trans (grown_drewN _ _ _) (grown_set _ _ _ _)⟩

set_option maxHeartbeats 400000 in
theorem sign_end (b : Nat) (s : ByteArray) (k : Nat) (bad : Bool) (c : UInt8) (w : World) (_hs : s.size ≤ 1048576) (hr : Rd w b s k bad) (hk : s.size ≤ k) :
    Calls Tryd.prog 17 #[.pointer (some ⟨b, 0, none⟩), .int .u8 (c.toNat : Int)] w fun e w' => e = .returned (.tuple #[]) ∧ Rd w' b s k true ∧ w.grownBy w' (some b) := by
  have c0 := hr.c0
  have c1 := hr.c1
  have c2 := hr.c2
  have f2 := hr.f2
  have hi : (s.size : Int) ≤ (k : Int) := by omega
  have hd : decide ((s.size : Int) ≤ (k : Int)) = true := by simp; omega
  have HR : Hid (Rd w b s k bad) := hr
  clear hr
  go_enter Tryd.func17, Tryd.ntmps17
  go_wp2
  go_quiet (fail)
  go_wp2
  go_returns
  exact ⟨rfl, (HR.out.drewN _).set2, grown_trans (grown_drewN _ _ _) (grown_set _ _ _ _)⟩

/-- What 'sign' does to place and bad. -/
def signM (s : ByteArray) (c : UInt8) (k : Nat) (bad : Bool) : Nat × Bool := if s.data.toList[k]? = some c then (k + 1, bad) else (k, true)

theorem sign_any (b : Nat) (s : ByteArray) (k : Nat) (bad : Bool) (c : UInt8) (w : World) (hs : s.size ≤ 1048576) (hr : Rd w b s k bad) :
    Calls Tryd.prog 17 #[.pointer (some ⟨b, 0, none⟩), .int .u8 (c.toNat : Int)] w fun e w' => e = .returned (.tuple #[]) ∧ Rd w' b s (signM s c k bad).1 (signM s c k bad).2 ∧ w.grownBy w' (some b) := by
  by_cases hk : k < s.size
  · have hg : s.data.toList[k]? = some s[k] := by
      rw [List.getElem?_eq_getElem (by simpa using hk)]; rfl
    by_cases hc : s[k] = c
    · have e : signM s c k bad = (k + 1, bad) := by unfold signM; rw [hg, hc, if_pos rfl]
      rw [e]; exact sign_hit b s k bad c w hs hr hk hc
    · have e : signM s c k bad = (k, true) := by unfold signM; rw [hg, if_neg (by simpa using hc)]
      rw [e]; exact sign_miss b s k bad c w hs hr hk hc
  · have e : signM s c k bad = (k, true) := by
      unfold signM; rw [List.getElem?_eq_none (by simpa using hk), if_neg (by simp)]
    rw [e]; exact sign_end b s k bad c w hs hr (by omega)
end Go.Proofs.YtakgoeofphpghabDoor
