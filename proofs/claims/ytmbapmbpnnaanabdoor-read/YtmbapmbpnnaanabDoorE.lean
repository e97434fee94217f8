import Derived.Test.YtmbapmbpnnaanabDoorS
import Derived.Lib.Hide
namespace Go.Proofs.YtmbapmbpnnaanabDoor
open Go.RowKit

theorem sign32 (b : Nat) (s : ByteArray) (k : Nat) (bad : Bool) (w : World) (hs : s.size ≤ 1048576) (hr : Rd w b s k bad) :
    Calls Tryd.prog 20 #[.pointer (some ⟨b, 0, none⟩), .int .u8 32] w fun e w' => e = .returned (.tuple #[]) ∧ Rd w' b s (signM s 32 k bad).1 (signM s 32 k bad).2 ∧ w.grownBy w' (some b) := sign_any b s k bad 32 w hs hr
theorem sign58 (b : Nat) (s : ByteArray) (k : Nat) (bad : Bool) (w : World) (hs : s.size ≤ 1048576) (hr : Rd w b s k bad) :
    Calls Tryd.prog 20 #[.pointer (some ⟨b, 0, none⟩), .int .u8 58] w fun e w' => e = .returned (.tuple #[]) ∧ Rd w' b s (signM s 58 k bad).1 (signM s 58 k bad).2 ∧ w.grownBy w' (some b) := sign_any b s k bad 58 w hs hr
theorem sign10 (b : Nat) (s : ByteArray) (k : Nat) (bad : Bool) (w : World) (hs : s.size ≤ 1048576) (hr : Rd w b s k bad) :
    Calls Tryd.prog 20 #[.pointer (some ⟨b, 0, none⟩), .int .u8 10] w fun e w' => e = .returned (.tuple #[]) ∧ Rd w' b s (signM s 10 k bad).1 (signM s 10 k bad).2 ∧ w.grownBy w' (some b) := sign_any b s k bad 10 w hs hr

/-- A state, as it is read. -/
structure St where
  fin : List UInt8
  sd : List (List UInt8)
  nx : List Nat
def str (l : List UInt8) : Value := .string ⟨l.toArray⟩
/-- Its nine cells. -/
def St.cells (q : St) : Array Value := #[str q.fin, str (q.sd.getD 0 []), str (q.sd.getD 1 []), str (q.sd.getD 2 []), str (q.sd.getD 3 []),
  .int .i64 (q.nx.getD 0 0 : Nat), .int .i64 (q.nx.getD 1 0 : Nat), .int .i64 (q.nx.getD 2 0 : Nat), .int .i64 (q.nx.getD 3 0 : Nat)]

/-- One letter's part of a line: what is read so far, the place, bad. -/
def lstep (s : ByteArray) (x : St × Nat × Bool) : St × Nat × Bool :=
  let a := signM s 32 x.2.1 x.2.2
  let wd := wordM s a.1 a.2
  let c := signM s 58 wd.2.1 (a.2 || wd.2.2)
  let t := run digB s.data.toList c.1
  (⟨x.1.fin, x.1.sd ++ [wd.1], x.1.nx ++ [numM t]⟩, c.1 + t.length, c.2 || numBad t)
def lfirst (s : ByteArray) (k : Nat) (bad : Bool) : St × Nat × Bool :=
  let wd := wordM s k bad
  (⟨wd.1, [], []⟩, wd.2.1, bad || wd.2.2)
def lparts (s : ByteArray) (k : Nat) (bad : Bool) : Nat → St × Nat × Bool
  | 0 => lfirst s k bad
  | n + 1 => lstep s (lparts s k bad n)
def lineM (s : ByteArray) (k : Nat) (bad : Bool) : St × Nat × Bool :=
  let x := lparts s k bad 4
  let a := signM s 10 x.2.1 x.2.2
  (x.1, a.1, a.2)

theorem signM_le (s : ByteArray) (c : UInt8) (k : Nat) (bad : Bool) (hk : k ≤ s.size) : (signM s c k bad).1 ≤ s.size := by
  unfold signM
  split
  · rename_i h
    exact sees_lt h
  · exact hk
theorem wordM_le (s : ByteArray) (k : Nat) (bad : Bool) (hk : k ≤ s.size) : (wordM s k bad).2.1 ≤ s.size := by
  unfold wordM
  split
  · rename_i h
    exact sees_lt h
  · have := run_le letB s.data.toList k (by simpa using hk)
    simpa using this
theorem numK_le (s : ByteArray) (k : Nat) (hk : k ≤ s.size) : k + (run digB s.data.toList k).length ≤ s.size := by
  have := run_le digB s.data.toList k (by simpa using hk)
  simpa using this
theorem lparts_le (s : ByteArray) (k : Nat) (bad : Bool) (hk : k ≤ s.size) : ∀ n, (lparts s k bad n).2.1 ≤ s.size
  | 0 => wordM_le s k bad hk
  | n + 1 => numK_le s _ (signM_le s 58 _ _ (wordM_le s _ _ (signM_le s 32 _ _ (lparts_le s k bad hk n))))
theorem lparts_len (s : ByteArray) (k : Nat) (bad : Bool) : ∀ n, (lparts s k bad n).1.sd.length = n ∧ (lparts s k bad n).1.nx.length = n
  | 0 => ⟨rfl, rfl⟩
  | n + 1 => by
    have := lparts_len s k bad n
    simp [lparts, lstep, this.1, this.2]

theorem blk_cell {w : World} {q : Nat} {a : Array Value} {t : TypeId} (h : w.heap[q]? = some (.cells a t (0, 0))) (i : Nat) (v : Value) (hi : a[i]? = some v) : w.cell? ⟨q, i, none⟩ = some v := by
  rw [cell_of_row w q i a t (0, 0) h]; exact hi
theorem blk_free {w : World} {q : Nat} {a : Array Value} {t : TypeId} (h : w.heap[q]? = some (.cells a t (0, 0))) (i : Nat) : w.frozen? ⟨q, i, none⟩ = false := by
  simp [World.frozen?, h]
theorem blk_set {w : World} {q : Nat} {a : Array Value} {t : TypeId} (h : w.heap[q]? = some (.cells a t (0, 0))) (i : Nat) (v : Value) : (w.setCell ⟨q, i, none⟩ v).heap[q]? = some (.cells (a.setIfInBounds i v) t (0, 0)) := by
  simp [World.setCell, Array.getElem?_modify, h]
theorem blk_other {w : World} {q b : Nat} {x : Option Obj} (h : w.heap[b]? = x) (i : Nat) (v : Value) (hne : b ≠ q) : (w.setCell ⟨q, i, none⟩ v).heap[b]? = x := by
  rw [Below.heap_setCell _ _ _ _ hne]; exact h
theorem blk_grown {w w' : World} {q : Nat} {x : Obj} {row : Option Nat} (h : w.heap[q]? = some x) (hg : w.grownBy w' row) (hne : some q ≠ row) : w'.heap[q]? = some x :=
  (hg.block q (Array.getElem?_eq_some_iff.1 h).1 hne).trans h

def zero9 : Array Value := #[.string ⟨#[]⟩, .string ⟨#[]⟩, .string ⟨#[]⟩, .string ⟨#[]⟩, .string ⟨#[]⟩, .int .i64 0, .int .i64 0, .int .i64 0, .int .i64 0]

theorem len1 {α : Type} {l : List α} (h : l.length = 1) : ∃ a, l = [a] := by
  match l, h with | [a], _ => exact ⟨a, rfl⟩
theorem len2 {α : Type} {l : List α} (h : l.length = 2) : ∃ a b, l = [a, b] := by
  match l, h with | [a, b], _ => exact ⟨a, b, rfl⟩
theorem len3 {α : Type} {l : List α} (h : l.length = 3) : ∃ a b c, l = [a, b, c] := by
  match l, h with | [a, b, c], _ => exact ⟨a, b, c, rfl⟩

theorem heap_two (w : World) (o p : Obj) : ((w.alloc o).alloc p).heap[w.heap.size]? = some o ∧ ((w.alloc o).alloc p).heap[w.heap.size + 1]? = some p := by
  constructor
  · show ((w.heap.push o).push p)[w.heap.size]? = _
    simp only [Array.getElem?_push, Array.size_push]; rw [if_neg (by omega), if_pos trivial]
  · show ((w.heap.push o).push p)[w.heap.size + 1]? = _
    simp only [Array.getElem?_push, Array.size_push]; rw [if_pos trivial]

set_option maxHeartbeats 2000000 in
set_option maxRecDepth 100000 in
theorem line_any (b : Nat) (s : ByteArray) (k : Nat) (bad : Bool) (w : World) (hs : s.size ≤ 1048576) (hk : k ≤ s.size) (hr : Rd w b s k bad) :
    Calls Tryd.prog 13 #[.pointer (some ⟨b, 0, none⟩)] w fun e w' => e = .returned (.agg (lineM s k bad).1.cells) ∧ Rd w' b s (lineM s k bad).2.1 (lineM s k bad).2.2 ∧ w.grownBy w' (some b) := by
  have hblt := hr.lt
  have h2 := heap_two w (.cells zero9 38 (0, 0)) (.cells zero9 38 (0, 0))
  go_enter Tryd.func13, Tryd.ntmps13
  go_wp2_with fail
  refine (word_any b s k bad _ hs hk ((hr.alloc _).alloc _)).mono ?_
  rintro e w1 ⟨rfl, hr1, hg1⟩
  have hR1 := blk_grown h2.1 hg1 (by simp; omega)
  have hQ1 := blk_grown h2.2 hg1 (by simp; omega)
  have q0 := blk_cell hQ1 0 _ rfl
  have q1 := blk_free hQ1 0
  have HR1 : Hid (w1.heap[w.heap.size]? = some (.cells zero9 38 (0, 0))) := hR1
  have HQ1 : Hid (w1.heap[w.heap.size + 1]? = some (.cells zero9 38 (0, 0))) := hQ1
  have HRd : Hid (Rd w1 b s (lparts s k bad 0).2.1 (lparts s k bad 0).2.2) := hr1
  have HG : Hid (w.grownBy w1 (some b)) := grown_trans (grown_trans (World.grownBy_alloc _ _ _) (World.grownBy_alloc _ _ _)) hg1
  clear hR1 hQ1 hr1 hg1 h2 hr
  go_wp2
  go_loopw [4] (fun v wr => ∃ n : Nat, n ≤ 4 ∧ v = .int .i64 (n : Int) ∧ Rd wr b s (lparts s k bad n).2.1 (lparts s k bad n).2.2 ∧ wr.heap[w.heap.size]? = some (.cells zero9 38 (0, 0)) ∧
      wr.heap[w.heap.size + 1]? = some (.cells (lparts s k bad n).1.cells 38 (0, 0)) ∧ w.grownBy wr (some b)) (fun v _ => 4 - (intOf v).toNat)
  case atStart =>
    refine ⟨0, by omega, rfl, ?_, ?_, ?_, ?_⟩
    · exact blk_other HRd.out _ _ (by omega)
    · exact blk_other HR1.out _ _ (by omega)
    · exact blk_set HQ1.out _ _
    · exact grown_new HG.out (grown_set _ _ _ _) (fun g hg => by cases hg; omega)
  case round =>
    obtain ⟨n, hn, rfl, hrn, hRn, hQn, hgn⟩ := hrel
    by_cases h4 : n < 4
    · have hle := lparts_le s k bad hk n
      have hln := lparts_len s k bad n
      obtain ⟨x, hx⟩ : ∃ x, x = lparts s k bad n := ⟨_, rfl⟩
      rw [← hx] at hrn hQn hle hln
      have HX : Hid (lparts s k bad (n + 1) = lstep s x) := by rw [hx]; exact rfl
      clear hx q0 q1 HR1 HQ1 HRd HG
      obtain ⟨⟨fin, sd, nx⟩, kk, bd⟩ := x
      simp only at hle hln hrn hQn
      have hQl : w.heap.size + 1 < wr.heap.size := (Array.getElem?_eq_some_iff.1 hQn).1
      match n, hln, h4 with
      | 0, hln, h4 =>
        obtain rfl := List.eq_nil_of_length_eq_zero hln.1
        obtain rfl := List.eq_nil_of_length_eq_zero hln.2
        clear hln
        go_wp2_with fail
        refine (sign32 b s kk bd wr hs hrn).mono ?_
        rintro e w2 ⟨rfl, hr2, hg2⟩
        go_wp2_with fail
        refine (word_any b s _ _ w2 hs (signM_le s 32 kk bd hle) hr2).mono ?_
        rintro e w3 ⟨rfl, hr3, hg3⟩
        have hR3 := blk_grown (blk_grown hRn hg2 (by simp; omega)) hg3 (by simp; omega)
        have hQ3 := blk_grown (blk_grown hQn hg2 (by simp; omega)) hg3 (by simp; omega)
        have hG3 : w.grownBy w3 (some b) := grown_trans (grown_trans hgn hg2) hg3
        have q0 := blk_cell hQ3 1 _ rfl
        have q1 := blk_free hQ3 1
        have hk3 := wordM_le s _ (signM s 32 kk bd).2 (signM_le s 32 kk bd hle)
        go_wp2_with fail
        refine (sign58 b s _ _ (w3.setCell ⟨w.heap.size + 1, 1, none⟩ _) hs (blk_other hr3 _ _ (by omega))).mono ?_
        rintro e w4 ⟨rfl, hr4, hg4⟩
        have hR4 := blk_grown (blk_other (q := w.heap.size + 1) hR3 _ _ (by omega)) hg4 (by simp; omega)
        have hQ4 := blk_grown (blk_set hQ3 _ _) hg4 (by simp; omega)
        have hG4 : w.grownBy w4 (some b) := grown_trans (grown_new hG3 (grown_set _ _ _ _) (fun g hg => by cases hg; omega)) hg4
        go_wp2_with fail
        refine (number_any b s _ _ w4 hs (signM_le s 58 _ _ hk3) hr4).mono ?_
        rintro e w5 ⟨rfl, hr5, hg5⟩
        have hR5 := blk_grown hR4 hg5 (by simp; omega)
        have hQ5 := blk_grown hQ4 hg5 (by simp; omega)
        have hG5 : w.grownBy w5 (some b) := grown_trans hG4 hg5
        clear q0 q1
        have q0 := blk_cell hQ5 5 _ rfl
        have q1 := blk_free hQ5 5
        have HR5 : Hid _ := hR5
        have HQ5 : Hid _ := hQ5
        clear hR5 hQ5 hR4 hQ4 hR3 hQ3 hRn hQn
        go_wp2
        go_roundw
        case rel =>
          refine ⟨1, by omega, rfl, ?_, ?_, ?_, ?_⟩
          · rw [HX.out]; exact blk_other hr5 _ _ (by omega)
          · exact blk_other HR5.out _ _ (by omega)
          · rw [HX.out]; exact blk_set HQ5.out _ _
          · exact grown_new hG5 (grown_set _ _ _ _) (fun g hg => by cases hg; omega)
        case measure => simp [intOf]
      | 1, hln, h4 =>
        obtain ⟨a0, rfl⟩ := len1 hln.1
        obtain ⟨m0, rfl⟩ := len1 hln.2
        clear hln
        go_wp2_with fail
        refine (sign32 b s kk bd wr hs hrn).mono ?_
        rintro e w2 ⟨rfl, hr2, hg2⟩
        go_wp2_with fail
        refine (word_any b s _ _ w2 hs (signM_le s 32 kk bd hle) hr2).mono ?_
        rintro e w3 ⟨rfl, hr3, hg3⟩
        have hR3 := blk_grown (blk_grown hRn hg2 (by simp; omega)) hg3 (by simp; omega)
        have hQ3 := blk_grown (blk_grown hQn hg2 (by simp; omega)) hg3 (by simp; omega)
        have hG3 : w.grownBy w3 (some b) := grown_trans (grown_trans hgn hg2) hg3
        have q0 := blk_cell hQ3 2 _ rfl
        have q1 := blk_free hQ3 2
        have hk3 := wordM_le s _ (signM s 32 kk bd).2 (signM_le s 32 kk bd hle)
        go_wp2_with fail
        refine (sign58 b s _ _ (w3.setCell ⟨w.heap.size + 1, 2, none⟩ _) hs (blk_other hr3 _ _ (by omega))).mono ?_
        rintro e w4 ⟨rfl, hr4, hg4⟩
        have hR4 := blk_grown (blk_other (q := w.heap.size + 1) hR3 _ _ (by omega)) hg4 (by simp; omega)
        have hQ4 := blk_grown (blk_set hQ3 _ _) hg4 (by simp; omega)
        have hG4 : w.grownBy w4 (some b) := grown_trans (grown_new hG3 (grown_set _ _ _ _) (fun g hg => by cases hg; omega)) hg4
        go_wp2_with fail
        refine (number_any b s _ _ w4 hs (signM_le s 58 _ _ hk3) hr4).mono ?_
        rintro e w5 ⟨rfl, hr5, hg5⟩
        have hR5 := blk_grown hR4 hg5 (by simp; omega)
        have hQ5 := blk_grown hQ4 hg5 (by simp; omega)
        have hG5 : w.grownBy w5 (some b) := grown_trans hG4 hg5
        clear q0 q1
        have q0 := blk_cell hQ5 6 _ rfl
        have q1 := blk_free hQ5 6
        have HR5 : Hid _ := hR5
        have HQ5 : Hid _ := hQ5
        clear hR5 hQ5 hR4 hQ4 hR3 hQ3 hRn hQn
        go_wp2
        go_roundw
        case rel =>
          refine ⟨2, by omega, rfl, ?_, ?_, ?_, ?_⟩
          · rw [HX.out]; exact blk_other hr5 _ _ (by omega)
          · exact blk_other HR5.out _ _ (by omega)
          · rw [HX.out]; exact blk_set HQ5.out _ _
          · exact grown_new hG5 (grown_set _ _ _ _) (fun g hg => by cases hg; omega)
        case measure => simp [intOf]
      | 2, hln, h4 =>
        obtain ⟨a0, a1, rfl⟩ := len2 hln.1
        obtain ⟨m0, m1, rfl⟩ := len2 hln.2
        clear hln
        go_wp2_with fail
        refine (sign32 b s kk bd wr hs hrn).mono ?_
        rintro e w2 ⟨rfl, hr2, hg2⟩
        go_wp2_with fail
        refine (word_any b s _ _ w2 hs (signM_le s 32 kk bd hle) hr2).mono ?_
        rintro e w3 ⟨rfl, hr3, hg3⟩
        have hR3 := blk_grown (blk_grown hRn hg2 (by simp; omega)) hg3 (by simp; omega)
        have hQ3 := blk_grown (blk_grown hQn hg2 (by simp; omega)) hg3 (by simp; omega)
        have hG3 : w.grownBy w3 (some b) := grown_trans (grown_trans hgn hg2) hg3
        have q0 := blk_cell hQ3 3 _ rfl
        have q1 := blk_free hQ3 3
        have hk3 := wordM_le s _ (signM s 32 kk bd).2 (signM_le s 32 kk bd hle)
        go_wp2_with fail
        refine (sign58 b s _ _ (w3.setCell ⟨w.heap.size + 1, 3, none⟩ _) hs (blk_other hr3 _ _ (by omega))).mono ?_
        rintro e w4 ⟨rfl, hr4, hg4⟩
        have hR4 := blk_grown (blk_other (q := w.heap.size + 1) hR3 _ _ (by omega)) hg4 (by simp; omega)
        have hQ4 := blk_grown (blk_set hQ3 _ _) hg4 (by simp; omega)
        have hG4 : w.grownBy w4 (some b) := grown_trans (grown_new hG3 (grown_set _ _ _ _) (fun g hg => by cases hg; omega)) hg4
        go_wp2_with fail
        refine (number_any b s _ _ w4 hs (signM_le s 58 _ _ hk3) hr4).mono ?_
        rintro e w5 ⟨rfl, hr5, hg5⟩
        have hR5 := blk_grown hR4 hg5 (by simp; omega)
        have hQ5 := blk_grown hQ4 hg5 (by simp; omega)
        have hG5 : w.grownBy w5 (some b) := grown_trans hG4 hg5
        clear q0 q1
        have q0 := blk_cell hQ5 7 _ rfl
        have q1 := blk_free hQ5 7
        have HR5 : Hid _ := hR5
        have HQ5 : Hid _ := hQ5
        clear hR5 hQ5 hR4 hQ4 hR3 hQ3 hRn hQn
        go_wp2
        go_roundw
        case rel =>
          refine ⟨3, by omega, rfl, ?_, ?_, ?_, ?_⟩
          · rw [HX.out]; exact blk_other hr5 _ _ (by omega)
          · exact blk_other HR5.out _ _ (by omega)
          · rw [HX.out]; exact blk_set HQ5.out _ _
          · exact grown_new hG5 (grown_set _ _ _ _) (fun g hg => by cases hg; omega)
        case measure => simp [intOf]
      | 3, hln, h4 =>
        obtain ⟨a0, a1, a2, rfl⟩ := len3 hln.1
        obtain ⟨m0, m1, m2, rfl⟩ := len3 hln.2
        clear hln
        go_wp2_with fail
        refine (sign32 b s kk bd wr hs hrn).mono ?_
        rintro e w2 ⟨rfl, hr2, hg2⟩
        go_wp2_with fail
        refine (word_any b s _ _ w2 hs (signM_le s 32 kk bd hle) hr2).mono ?_
        rintro e w3 ⟨rfl, hr3, hg3⟩
        have hR3 := blk_grown (blk_grown hRn hg2 (by simp; omega)) hg3 (by simp; omega)
        have hQ3 := blk_grown (blk_grown hQn hg2 (by simp; omega)) hg3 (by simp; omega)
        have hG3 : w.grownBy w3 (some b) := grown_trans (grown_trans hgn hg2) hg3
        have q0 := blk_cell hQ3 4 _ rfl
        have q1 := blk_free hQ3 4
        have hk3 := wordM_le s _ (signM s 32 kk bd).2 (signM_le s 32 kk bd hle)
        go_wp2_with fail
        refine (sign58 b s _ _ (w3.setCell ⟨w.heap.size + 1, 4, none⟩ _) hs (blk_other hr3 _ _ (by omega))).mono ?_
        rintro e w4 ⟨rfl, hr4, hg4⟩
        have hR4 := blk_grown (blk_other (q := w.heap.size + 1) hR3 _ _ (by omega)) hg4 (by simp; omega)
        have hQ4 := blk_grown (blk_set hQ3 _ _) hg4 (by simp; omega)
        have hG4 : w.grownBy w4 (some b) := grown_trans (grown_new hG3 (grown_set _ _ _ _) (fun g hg => by cases hg; omega)) hg4
        go_wp2_with fail
        refine (number_any b s _ _ w4 hs (signM_le s 58 _ _ hk3) hr4).mono ?_
        rintro e w5 ⟨rfl, hr5, hg5⟩
        have hR5 := blk_grown hR4 hg5 (by simp; omega)
        have hQ5 := blk_grown hQ4 hg5 (by simp; omega)
        have hG5 : w.grownBy w5 (some b) := grown_trans hG4 hg5
        clear q0 q1
        have q0 := blk_cell hQ5 8 _ rfl
        have q1 := blk_free hQ5 8
        have HR5 : Hid _ := hR5
        have HQ5 : Hid _ := hQ5
        clear hR5 hQ5 hR4 hQ4 hR3 hQ3 hRn hQn
        go_wp2
        go_roundw
        case rel =>
          refine ⟨4, by omega, rfl, ?_, ?_, ?_, ?_⟩
          · rw [HX.out]; exact blk_other hr5 _ _ (by omega)
          · exact blk_other HR5.out _ _ (by omega)
          · rw [HX.out]; exact blk_set HQ5.out _ _
          · exact grown_new hG5 (grown_set _ _ _ _) (fun g hg => by cases hg; omega)
        case measure => simp [intOf]
    · obtain rfl : n = 4 := by omega
      clear q0 q1 HR1 HQ1 HRd HG
      go_wp2_with fail
      refine (sign10 b s _ _ wr hs hrn).mono ?_
      rintro e w2 ⟨rfl, hr2, hg2⟩
      have hR2 := blk_grown hRn hg2 (by simp; omega)
      have hQ2 := blk_grown hQn hg2 (by simp; omega)
      have HR2 : Hid (Rd w2 b s (lineM s k bad).2.1 (lineM s k bad).2.2) := hr2
      have HG2 : Hid (w.grownBy w2 (some b)) := grown_trans hgn hg2
      obtain ⟨x, hx⟩ : ∃ x, x = (lparts s k bad 4).1 := ⟨_, rfl⟩
      have HX : Hid ((lineM s k bad).1 = x) := by rw [hx]; exact rfl
      rw [← hx] at hQ2
      clear hx hRn hQn hrn hr2
      obtain ⟨S0, S1, S2, S3, S4, N0, N1, N2, N3, hc⟩ : ∃ (S0 S1 S2 S3 S4 : ByteArray) (N0 N1 N2 N3 : Int), x.cells = #[.string S0, .string S1, .string S2, .string S3, .string S4, .int .i64 N0, .int .i64 N1, .int .i64 N2, .int .i64 N3] := ⟨_, _, _, _, _, _, _, _, _, rfl⟩
      rw [hc] at hQ2
      have HC : Hid ((lineM s k bad).1.cells = #[.string S0, .string S1, .string S2, .string S3, .string S4, .int .i64 N0, .int .i64 N1, .int .i64 N2, .int .i64 N3]) := by
        show (lineM s k bad).1.cells = _
        rw [HX.out, hc]
      clear hc HX
      have a0 : w2.cell? ⟨w.heap.size + 1, 0, none⟩ = some (.string S0) := blk_cell hQ2 0 _ rfl
      have b0 : w2.cell? ⟨w.heap.size, 0, none⟩ = some (.string ⟨#[]⟩) := blk_cell hR2 0 _ rfl
      have f0 := blk_free hR2 0
      have a1 : w2.cell? ⟨w.heap.size + 1, 1, none⟩ = some (.string S1) := blk_cell hQ2 1 _ rfl
      have b1 : w2.cell? ⟨w.heap.size, 1, none⟩ = some (.string ⟨#[]⟩) := blk_cell hR2 1 _ rfl
      have f1 := blk_free hR2 1
      have a2 : w2.cell? ⟨w.heap.size + 1, 2, none⟩ = some (.string S2) := blk_cell hQ2 2 _ rfl
      have b2 : w2.cell? ⟨w.heap.size, 2, none⟩ = some (.string ⟨#[]⟩) := blk_cell hR2 2 _ rfl
      have f2 := blk_free hR2 2
      have a3 : w2.cell? ⟨w.heap.size + 1, 3, none⟩ = some (.string S3) := blk_cell hQ2 3 _ rfl
      have b3 : w2.cell? ⟨w.heap.size, 3, none⟩ = some (.string ⟨#[]⟩) := blk_cell hR2 3 _ rfl
      have f3 := blk_free hR2 3
      have a4 : w2.cell? ⟨w.heap.size + 1, 4, none⟩ = some (.string S4) := blk_cell hQ2 4 _ rfl
      have b4 : w2.cell? ⟨w.heap.size, 4, none⟩ = some (.string ⟨#[]⟩) := blk_cell hR2 4 _ rfl
      have f4 := blk_free hR2 4
      have a5 : w2.cell? ⟨w.heap.size + 1, 5, none⟩ = some (.int .i64 N0) := blk_cell hQ2 5 _ rfl
      have b5 : w2.cell? ⟨w.heap.size, 5, none⟩ = some (.int .i64 0) := blk_cell hR2 5 _ rfl
      have f5 := blk_free hR2 5
      have a6 : w2.cell? ⟨w.heap.size + 1, 6, none⟩ = some (.int .i64 N1) := blk_cell hQ2 6 _ rfl
      have b6 : w2.cell? ⟨w.heap.size, 6, none⟩ = some (.int .i64 0) := blk_cell hR2 6 _ rfl
      have f6 := blk_free hR2 6
      have a7 : w2.cell? ⟨w.heap.size + 1, 7, none⟩ = some (.int .i64 N2) := blk_cell hQ2 7 _ rfl
      have b7 : w2.cell? ⟨w.heap.size, 7, none⟩ = some (.int .i64 0) := blk_cell hR2 7 _ rfl
      have f7 := blk_free hR2 7
      have a8 : w2.cell? ⟨w.heap.size + 1, 8, none⟩ = some (.int .i64 N3) := blk_cell hQ2 8 _ rfl
      have b8 : w2.cell? ⟨w.heap.size, 8, none⟩ = some (.int .i64 0) := blk_cell hR2 8 _ rfl
      have f8 := blk_free hR2 8
      have HRR : Hid _ := hR2
      clear hR2 hQ2
      go_wp2
      refine bodyPost_ret (v := .agg #[.string S0, .string S1, .string S2, .string S3, .string S4, .int .i64 N0, .int .i64 N1, .int .i64 N2, .int .i64 N3]) (by simp [results, Tryd.results13, go_sem, b0, b1, b2, b3, b4, b5, b6, b7, b8]) rfl ⟨by rw [HC.out], ?_, ?_⟩
      · have hbn : b ≠ w.heap.size := by omega
        exact blk_other (blk_other (blk_other (blk_other (blk_other (blk_other (blk_other (blk_other (blk_other HR2.out _ _ hbn) _ _ hbn) _ _ hbn) _ _ hbn) _ _ hbn) _ _ hbn) _ _ hbn) _ _ hbn) _ _ hbn
      · have hn : ∀ g, some w.heap.size = some g → w.heap.size ≤ g := fun g hg => by cases hg; omega
        exact grown_new (grown_new (grown_new (grown_new (grown_new (grown_new (grown_new (grown_new (grown_new HG2.out (grown_set _ _ _ _) hn) (grown_set _ _ _ _) hn) (grown_set _ _ _ _) hn) (grown_set _ _ _ _) hn) (grown_set _ _ _ _) hn) (grown_set _ _ _ _) hn) (grown_set _ _ _ _) hn) (grown_set _ _ _ _) hn) (grown_set _ _ _ _) hn
end Go.Proofs.YtmbapmbpnnaanabDoor
