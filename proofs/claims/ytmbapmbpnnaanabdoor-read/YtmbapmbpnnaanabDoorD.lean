import Derived.Test.YtmbapmbpnnaanabDoorB
import Derived.Deep.RegionHeld3
import Derived.Deep.AppendLies
import Derived.Deep.DrawnRows
import Derived.Laws.IdiomStrings
import Derived.Lib.UnsafeStr
import Derived.OwnWalk
import Derived.KernelRfl
namespace Go.Proofs.YtmbapmbpnnaanabDoor
open Go.RowKit
attribute [local go_sem ↓] Go.wp_at_zero Go.wp_at_succ

theorem Tryd.info5 : (Tryd.prog.info? 5).map (fun i => (i.zero, i.size, i.bytes)) = some (some (.int .u8 0), 1, 1) := by kernel_rfl

theorem Rd.grown {w w' b s k bad} {row : Option Nat} (h : Rd w b s k bad) (hg : w.grownBy w' row) (hne : some b ≠ row) : Rd w' b s k bad :=
  (hg.block b h.lt hne).trans h
theorem Rd.alloc {w b s k bad} (h : Rd w b s k bad) (o : Obj) : Rd (w.alloc o) b s k bad := h.grown (World.grownBy_alloc w o none) (by simp)
theorem grown_new {w w1 w2 : World} {row row' : Option Nat} (h1 : w.grownBy w1 row) (h2 : w1.grownBy w2 row') (hn : ∀ g, row' = some g → w.heap.size ≤ g) : w.grownBy w2 row :=
  ⟨h2.os.trans h1.os, h2.tape.trans h1.tape, h2.output.trans h1.output, Nat.le_trans h1.size h2.size,
   fun k hk hne => (h2.block k (Nat.lt_of_lt_of_le hk h1.size) (fun e => by have := hn k e.symm; omega)).trans (h1.block k hk hne)⟩

section
variable {b : Nat} {s : ByteArray} {k p : Nat} {bad : Bool} {t : List UInt8} {w wr : World} {n : Nat}
abbrev RunPost (b : Nat) (s : ByteArray) (k : Nat) (bad : Bool) (t : List UInt8) (w : World) (e : Ending) (w' : World) : Prop :=
  e = .returned (.string ⟨t.toArray⟩) ∧ Rd w' b s (k + t.length) bad ∧ w.grownBy w' (some b)
theorem run_fin (hp : p = k + t.length) (hr : Rd wr b s p bad) (hg : w.grownBy wr (some b)) :
    RunPost b s k bad t w (.returned (.string ⟨t.toArray⟩)) (wr.drewN n) := by
  refine ⟨rfl, ?_, grown_trans hg (grown_drewN _ _ _)⟩
  rw [← hp]
  exact hr.drewN n
end

set_option maxHeartbeats 1600000 in
set_option maxRecDepth 100000 in
theorem run_any (d : Bool) (b : Nat) (s : ByteArray) (k : Nat) (bad : Bool) (w : World) (hs : s.size ≤ 1048576) (hks : k ≤ s.size) (hr : Rd w b s k bad) :
    Calls Tryd.prog 29 #[.pointer (some ⟨b, 0, none⟩), .int .i64 (clsN d)] w fun e w' => RunPost b s k bad (run (clsB d) s.data.toList k) w e w' := by
  obtain ⟨i0, hinf, hz0, hz1, hz2⟩ := info_parts Tryd.info5
  obtain ⟨t, ht⟩ : ∃ t, t = run (clsB d) s.data.toList k := ⟨_, rfl⟩
  rw [← ht]
  have hle : k + t.length ≤ s.size := by have := run_le (clsB d) s.data.toList k (by simpa using hks); rw [← ht] at this; simpa using this
  have hin : ∀ j, j ≤ t.length → (j < t.length ↔ ∃ c, s.data.toList[k + j]? = some c ∧ clsB d c = true) := fun j hj => by rw [ht] at hj ⊢; exact run_iff _ _ _ _ hj
  have htk : ∀ j c, j < t.length → s.data.toList[k + j]? = some c → t.take (j + 1) = t.take j ++ [c] := fun j c hj hc => by rw [ht] at hj ⊢; exact run_take _ _ _ _ _ hj hc
  have hhas := has_any d
  obtain ⟨D, hD⟩ : ∃ D, D = clsN d := ⟨_, rfl⟩
  obtain ⟨P, hP⟩ : ∃ P, P = clsB d := ⟨_, rfl⟩
  rw [← hD, ← hP] at hhas
  rw [← hP] at hin
  rw [← hD]
  have HR : Hid (Rd w b s k bad) := hr
  have Hin : Hid (∀ j, j ≤ t.length → (j < t.length ↔ ∃ c, s.data.toList[k + j]? = some c ∧ P c = true)) := hin
  have Htk : Hid (∀ j c, j < t.length → s.data.toList[k + j]? = some c → t.take (j + 1) = t.take j ++ [c]) := htk
  have HH : Hid (∀ c w, Calls Tryd.prog 38 #[.int .i64 D, .int .u8 ((c : UInt8).toNat : Int)] w fun e w' => e = .returned (.bool (P c)) ∧ w' = w) := hhas
  have hblt := hr.lt
  clear ht hr hin htk hhas hD hP
  go_enter Tryd.func29, Tryd.ntmps29
  go_wp2
  go_loopw [5] (fun v wr => ∃ j : Nat, j ≤ t.length ∧ wr.ownsRow w.heap.size 5 1 v j (Lib.byteCells (t.take j)) ∧ Rd wr b s (k + j) bad ∧ w.grownBy wr (some b)) (fun _ wr => s.size - kOf wr b)
  case atStart => exact ⟨0, Nat.zero_le _, by simpa [Lib.byteCells] using World.ownsRow_nil _ _ _ _, HR.out, World.grownBy.refl _ _⟩
  case round =>
    obtain ⟨j, hj, hown, hrj, hgj⟩ := hrel
    obtain ⟨p, hp⟩ : ∃ p, p = k + j := ⟨_, rfl⟩
    rw [← hp] at hrj
    have c0 := hrj.c0
    have c1 := hrj.c1
    have c2 := hrj.c2
    have f1 := hrj.f1
    have f2 := hrj.f2
    have HR2 : Hid (Rd wr b s p bad) := hrj
    have HG2 : Hid (w.grownBy wr (some b)) := hgj
    have HP : Hid (p = k + j) := hp
    have hps : p ≤ s.size := by omega
    have hsz := hgj.size
    have hvb := fun g h => (hown.lt g h).1
    have hvb2 : ∀ v : Value, (∀ g, v.ownBlock = some g → w.heap.size ≤ g) → some b ≠ v.ownBlock := fun v h e => by have := h b e.symm; omega
    clear hrj hgj HR hp
    by_cases hlt : p < s.size
    · have Hg : Hid (s.data.toList[p]? = some s[p]) := Lib.data_getElem? s p hlt
      have hi : (p : Int) < (s.size : Int) := by omega
      have hi0 : (0 : Int) ≤ (p : Int) := by omega
      have hd : decide (p < s.size) = true := decide_eq_true hlt
      by_cases hdg : P s[p] = true
      · have hjt : j < t.length := (Hin.out j hj).2 ⟨s[p], by rw [← HP.out]; exact Hg.out, hdg⟩
        go_wp2
        go_quiet ((go_at_call 38; exact Calls.quiet_of_same (HH.out _ _)))
        go_wp2_with fail
        have hown' : (wr.drewN nq).ownsRow w.heap.size 5 1 u5 j (Lib.byteCells (t.take j)) := hown
        have hbne := hvb2 u5 hvb
        go_region_held3 (fun w' => w'.cell? ⟨b, 0, none⟩ = some (.string s) ∧ w'.cell? ⟨b, 1, none⟩ = some (.int .i64 (p : Int)))
          (first
            | go_keep
            | (go_split_ands
               refine ⟨?_, ?_⟩
               · (rw [hgrow.cell_far _ (by simp; omega) hbne]; assumption)
               · (rw [hgrow.cell_far _ (by simp; omega) hbne]; assumption)))
          ((refine step_append_lies _ (by rfl) _ _ _ (by rfl) w.heap.size 5 i0 _ 1 1 Tryd.underlying34 hinf hz0 hz1 hz2 rfl (by omega) u5 j (Lib.byteCells (t.take j)) (by rfl) ((hown'.alloc _).drew)
              ⟨wr.heap.size, 0, none⟩ 1 1 [.int .u8 (s[p].toNat : Int)] (by rfl) (by rfl) (World.news_of_block (cs := #[.int .u8 (s[p].toNat : Int)]) (t := 5) (fr := (0, 0)) (heap_alloc_new (wr.drewN nq) _)) (by simp [Value.oneCell'])
              (by omega) (by unfold maxLen; omega) (by omega) (by simp; omega) (wr.heap.size + 1) (by simp) ?_; intro gg cap w1 hown1 hgrow hat hltt))
        have hr1 : Rd w1 b s p bad := Rd.grown ((HR2.out.drewN (nq + 1)).alloc _) hgrow hbne
        have hg1 : w.grownBy w1 (some b) := grown_new (grown_trans (grown_trans HG2.out (grown_drewN _ (nq + 1) _)) (World.grownBy_alloc _ _ _)) hgrow hvb
        have d0 := hr1.c0
        have d1 := hr1.c1
        have e1 := hr1.f1
        have HR3 : Hid (Rd w1 b s p bad) := hr1
        have HG3 : Hid (w.grownBy w1 (some b)) := hg1
        have HO3 : Hid (w1.ownsRow w.heap.size 5 1 (.slice (some ⟨gg, 0, none⟩) (j + 1) cap) (j + 1) (Lib.byteCells (t.take (j + 1)))) := by
          rw [Htk.out j s[p] hjt (by rw [← HP.out]; exact Hg.out)]
          show World.ownsRow _ _ _ _ _ _ _
          simpa [Lib.byteCells] using hown1
        clear hown' hown hown1 hr1 hg1 hgrow hbne c0 c1 c2 f1 f2 hat hvb hvb2 hinf hz0 hz1 hz2
        go_wp2
        go_roundw
        case rel =>
          refine ⟨j + 1, by omega, ownsRow_setCell_below HO3.out (by simpa using hblt) _, ?_, ?_⟩
          · have e : k + (j + 1) = p + 1 := by have := HP.out; omega
            rw [e]
            exact HR3.out.set1 (p + 1)
          · exact grown_trans HG3.out (grown_set _ _ _ _)
        case measure => exact lt_meas HR2.out (HR3.out.set1 (p + 1)) (by omega) hlt
      · have hdf : P s[p] = false := by simpa using hdg
        have hjt : ¬ j < t.length := fun h => by
          obtain ⟨c, h1, h2⟩ := (Hin.out j hj).1 h
          rw [← HP.out, Hg.out] at h1
          cases h1
          exact hdg h2
        obtain rfl : j = t.length := by omega
        clear hjt hdg Hg
        go_wp2
        go_quiet ((go_at_call 38; exact Calls.quiet_of_same (HH.out _ _)))
        rw [List.take_length] at hown
        rcases hown.2 with ⟨rfl, h0⟩ | ⟨g, cap, cur, rfl, -, -, -, -, -, -⟩
        · have hcv : ∀ wx, (convert 34 9 (.slice none 0 0)).run Tryd.prog wx = .ok (.string ⟨#[]⟩) wx := fun wx => by rw [run_convert_bytes_string wx 34 9 5 none 0 0 Tryd.underlying34 Tryd.underlying5 Tryd.underlying9]; rfl
          obtain rfl : t = [] := List.eq_nil_of_length_eq_zero h0
          go_wp2
          go_ret
          exact run_fin HP.out HR2.out HG2.out
        · have hcv1 := run_convert_bytes_back (P := Tryd.prog) (wr.drewN nq) 34 9 5 ⟨g, 0, none⟩ cap t Tryd.underlying34 Tryd.underlying5 Tryd.underlying9 (fun j hj => hown.cells (g := g) rfl j _ (by simp [Lib.byteCells, hj]))
          go_wp2
          go_ret
          exact run_fin HP.out HR2.out HG2.out
    · obtain rfl : j = t.length := by have := HP.out; omega
      have hd : decide (p < s.size) = false := decide_eq_false hlt
      go_wp2
      go_quiet ((go_at_call 38; exact Calls.quiet_of_same (HH.out _ _)))
      rw [List.take_length] at hown
      rcases hown.2 with ⟨rfl, h0⟩ | ⟨g, cap, cur, rfl, -, -, -, -, -, -⟩
      · have hcv : ∀ wx, (convert 34 9 (.slice none 0 0)).run Tryd.prog wx = .ok (.string ⟨#[]⟩) wx := fun wx => by rw [run_convert_bytes_string wx 34 9 5 none 0 0 Tryd.underlying34 Tryd.underlying5 Tryd.underlying9]; rfl
        obtain rfl : t = [] := List.eq_nil_of_length_eq_zero h0
        go_wp2
        go_ret
        exact run_fin HP.out HR2.out HG2.out
      · have hcv1 := run_convert_bytes_back (P := Tryd.prog) (wr.drewN nq) 34 9 5 ⟨g, 0, none⟩ cap t Tryd.underlying34 Tryd.underlying5 Tryd.underlying9 (fun j hj => hown.cells (g := g) rfl j _ (by simp [Lib.byteCells, hj]))
        go_wp2
        go_ret
        exact run_fin HP.out HR2.out HG2.out

theorem run_said (b : Nat) (s : ByteArray) (k : Nat) (bad : Bool) (w : World) (hs : s.size ≤ 1048576) (hk : k ≤ s.size) (hr : Rd w b s k bad) :
    Calls Tryd.prog 29 #[.pointer (some ⟨b, 0, none⟩), .int .i64 1] w fun e w' => RunPost b s k bad (run letB s.data.toList k) w e w' := run_any false b s k bad w hs hk hr
theorem run_digit (b : Nat) (s : ByteArray) (k : Nat) (bad : Bool) (w : World) (hs : s.size ≤ 1048576) (hk : k ≤ s.size) (hr : Rd w b s k bad) :
    Calls Tryd.prog 29 #[.pointer (some ⟨b, 0, none⟩), .int .i64 2] w fun e w' => RunPost b s k bad (run digB s.data.toList k) w e w' := run_any true b s k bad w hs hk hr
end Go.Proofs.YtmbapmbpnnaanabDoor
