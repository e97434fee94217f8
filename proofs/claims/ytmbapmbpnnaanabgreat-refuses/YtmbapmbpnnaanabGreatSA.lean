import Derived.Test.YtmbapmbpnnaanabGreatProg
import Derived.WalkKit
import Derived.WalkSpells
import Derived.WalkLawsBesides
import Derived.BigQuiet
import Derived.Deep.QuietTactic
import Derived.Handy
import Derived.Lib.Strings
import Derived.Lib.IndexBytes
import Derived.Deep.RegionHeld3
import Derived.Deep.AppendLies
import Derived.Deep.DrawnRows
import Derived.Laws.IdiomStrings
import Derived.Lib.UnsafeStr
import Derived.OwnWalk
import Derived.KernelRfl
/- Plain lists and numbers: nothing of the dump. -/
namespace Go.Proofs.YtmbapmbpnnaanabGreat.Ld

def digB (c : UInt8) : Bool := decide (48 ≤ c.toNat ∧ c.toNat ≤ 57)
def letB (c : UInt8) : Bool := decide ((97 ≤ c.toNat ∧ c.toNat ≤ 100) ∨ (65 ≤ c.toNat ∧ c.toNat ≤ 68))

theorem tw_iff (p : UInt8 → Bool) : ∀ (l : List UInt8) (j : Nat), j ≤ (l.takeWhile p).length → (j < (l.takeWhile p).length ↔ ∃ c, l[j]? = some c ∧ p c = true)
  | [], j, h => by simp
  | a :: l, j, h => by
    by_cases ha : p a = true
    · rw [List.takeWhile_cons_of_pos ha] at h ⊢
      match j with
      | 0 => simp [ha]
      | j + 1 =>
        have := tw_iff p l j (by simpa using h)
        simpa using this
    · rw [List.takeWhile_cons_of_neg ha] at h ⊢
      have : j = 0 := by simpa using h
      subst this
      simp [ha]

theorem tw_get (p : UInt8 → Bool) : ∀ (l : List UInt8) (j : Nat), j < (l.takeWhile p).length → (l.takeWhile p)[j]? = l[j]?
  | [], j, h => by simp at h
  | a :: l, j, h => by
    by_cases ha : p a = true
    · rw [List.takeWhile_cons_of_pos ha] at h ⊢
      match j with
      | 0 => simp
      | j + 1 => simpa using tw_get p l j (by simpa using h)
    · rw [List.takeWhile_cons_of_neg ha] at h
      simp at h

theorem tw_le (p : UInt8 → Bool) (l : List UInt8) : (l.takeWhile p).length ≤ l.length := (List.takeWhile_sublist p).length_le

theorem tw_append (p : UInt8 → Bool) (l : List UInt8) : l.takeWhile p ++ l.drop (l.takeWhile p).length = l := by
  induction l with
  | nil => simp
  | cons a l ih =>
    by_cases ha : p a = true
    · rw [List.takeWhile_cons_of_pos ha]; simp [ih]
    · rw [List.takeWhile_cons_of_neg ha]; simp

/-- The run of bytes from k on. -/
def run (p : UInt8 → Bool) (l : List UInt8) (k : Nat) : List UInt8 := (l.drop k).takeWhile p

theorem run_iff (p : UInt8 → Bool) (l : List UInt8) (k j : Nat) (h : j ≤ (run p l k).length) : (j < (run p l k).length ↔ ∃ c, l[k + j]? = some c ∧ p c = true) := by
  have := tw_iff p (l.drop k) j h
  simpa [run] using this
theorem run_get (p : UInt8 → Bool) (l : List UInt8) (k j : Nat) (h : j < (run p l k).length) : (run p l k)[j]? = l[k + j]? := by
  have := tw_get p (l.drop k) j h
  simpa [run] using this
theorem run_le (p : UInt8 → Bool) (l : List UInt8) (k : Nat) (hk : k ≤ l.length) : k + (run p l k).length ≤ l.length := by
  have := tw_le p (l.drop k)
  simp at this
  simp only [run]
  omega
theorem run_take (p : UInt8 → Bool) (l : List UInt8) (k j : Nat) (c : UInt8) (h : j < (run p l k).length) (hc : l[k + j]? = some c) : (run p l k).take (j + 1) = (run p l k).take j ++ [c] := by
  have hg := run_get p l k j h
  rw [List.take_add_one, hg, hc]
  rfl
theorem run_drop (p : UInt8 → Bool) (l : List UInt8) (k : Nat) : l.drop k = run p l k ++ l.drop (k + (run p l k).length) := by
  have := tw_append p (l.drop k)
  rw [List.drop_drop] at this
  exact this.symm

/-- The number: it grows on up to 200. -/
def numStep (n : Nat) (c : UInt8) : Nat := if n ≤ 200 then n * 10 + (c.toNat - 48) else n
def numM (t : List UInt8) : Nat := t.foldl numStep 0
theorem numM_snoc (t : List UInt8) (c : UInt8) : numM (t ++ [c]) = numStep (numM t) c := by simp [numM]
theorem foldl_le (t : List UInt8) : ∀ n, n ≤ 2300 → t.foldl numStep n ≤ 2300 := by
  induction t with
  | nil => intro n h; simpa using h
  | cons c t ih =>
    intro n h
    simp only [List.foldl_cons]
    refine ih _ ?_
    unfold numStep
    have := c.toNat_lt
    split <;> omega
theorem numM_le (t : List UInt8) : numM t ≤ 2300 := foldl_le t 0 (by omega)
def numBad (t : List UInt8) : Bool := t.isEmpty || (decide (1 < t.length) && t.head? == some 48)
theorem run_all (p : UInt8 → Bool) (l : List UInt8) (k : Nat) : ∀ c ∈ run p l k, p c = true := fun c h => by
  unfold run at h
  generalize l.drop k = m at h
  induction m with
  | nil => simp at h
  | cons a m ih =>
    by_cases ha : p a = true
    · rw [List.takeWhile_cons_of_pos ha] at h
      rcases List.mem_cons.1 h with rfl | h2
      · exact ha
      · exact ih h2
    · rw [List.takeWhile_cons_of_neg ha] at h
      cases h
theorem num_gt (u : List UInt8) : ∀ n, 200 < n → u.foldl numStep n = n := by
  induction u with
  | nil => intro n _; rfl
  | cons c u ih =>
    intro n h
    have e : numStep n c = n := by unfold numStep; rw [if_neg (by omega)]
    rw [List.foldl_cons, e]
    exact ih n h
/-- Beyond 200 the number grows no more. -/
theorem num_stop (t : List UInt8) (i : Nat) (h : 200 < numM (t.take i)) : numM t = numM (t.take i) := by
  have e : numM t = (t.drop i).foldl numStep (numM (t.take i)) := by
    unfold numM
    rw [← List.foldl_append, List.take_append_drop]
  rw [e]
  exact num_gt _ _ h
end Go.Proofs.YtmbapmbpnnaanabGreat.Ld
namespace Go.Proofs.YtmbapmbpnnaanabGreat.Ld
open Go.RowKit

/-- The reader in block b: the text, the place, bad. -/
def Rd (w : World) (b : Nat) (s : ByteArray) (k : Nat) (bad : Bool) : Prop := w.heap[b]? = some (.cells #[.string s, .int .i64 (k : Int), .bool bad] 130 (0, 0))

theorem Rd.c0 {w b s k bad} (h : Rd w b s k bad) : w.cell? ⟨b, 0, none⟩ = some (.string s) := by simp [World.cell?, show w.heap[b]? = _ from h]
theorem Rd.c1 {w b s k bad} (h : Rd w b s k bad) : w.cell? ⟨b, 1, none⟩ = some (.int .i64 (k : Int)) := by simp [World.cell?, show w.heap[b]? = _ from h]
theorem Rd.c2 {w b s k bad} (h : Rd w b s k bad) : w.cell? ⟨b, 2, none⟩ = some (.bool bad) := by simp [World.cell?, show w.heap[b]? = _ from h]
theorem Rd.f1 {w b s k bad} (h : Rd w b s k bad) : w.frozen? ⟨b, 1, none⟩ = false := by simp [World.frozen?, show w.heap[b]? = _ from h]
theorem Rd.f2 {w b s k bad} (h : Rd w b s k bad) : w.frozen? ⟨b, 2, none⟩ = false := by simp [World.frozen?, show w.heap[b]? = _ from h]
theorem Rd.lt {w b s k bad} (h : Rd w b s k bad) : b < w.heap.size := (Array.getElem?_eq_some_iff.1 h).1
theorem Rd.set1 {w b s k bad} (h : Rd w b s k bad) (k' : Nat) : Rd (w.setCell ⟨b, 1, none⟩ (.int .i64 (k' : Int))) b s k' bad := by
  simp [Rd, World.setCell, Array.getElem?_modify, show w.heap[b]? = _ from h]
theorem Rd.set2 {w b s k bad} (h : Rd w b s k bad) : Rd (w.setCell ⟨b, 2, none⟩ (.bool true)) b s k true := by
  simp [Rd, World.setCell, Array.getElem?_modify, show w.heap[b]? = _ from h]
theorem Rd.drewN {w b s k bad} (h : Rd w b s k bad) (n : Nat) : Rd (w.drewN n) b s k bad := h

theorem grown_set (w : World) (b o : Nat) (v : Value) : w.grownBy (w.setCell ⟨b, o, none⟩ v) (some b) :=
  ⟨rfl, rfl, rfl, by simp [World.setCell], fun k _ hne => Below.heap_setCell _ _ _ _ (by intro h; exact hne (by rw [h]))⟩
theorem grown_drewN (w : World) (n : Nat) (row : Option Nat) : w.grownBy (w.drewN n) row := ⟨rfl, rfl, rfl, Nat.le_refl _, fun _ _ _ => rfl⟩
theorem grown_trans {w w1 w2 : World} {row : Option Nat} (h1 : w.grownBy w1 row) (h2 : w1.grownBy w2 row) : w.grownBy w2 row :=
  ⟨h2.os.trans h1.os, h2.tape.trans h1.tape, h2.output.trans h1.output, Nat.le_trans h1.size h2.size,
   fun k hk hne => (h2.block k (Nat.lt_of_lt_of_le hk h1.size) hne).trans (h1.block k hk hne)⟩

/-- Whether the byte c stands next. -/
def seesB (s : ByteArray) (c : UInt8) (k : Nat) (bad : Bool) : Bool := !bad && decide (s.data.toList[k]? = some c)

theorem at_none {s : ByteArray} {k : Nat} (h : s.size ≤ k) : s.data.toList[k]? = none := List.getElem?_eq_none (by simpa using h)
theorem at_some {s : ByteArray} {k : Nat} (h : k < s.size) : s.data.toList[k]? = some s[k] := by
  rw [List.getElem?_eq_getElem (by simpa using h)]; rfl
theorem sees_bad (s : ByteArray) (c : UInt8) (k : Nat) : seesB s c k true = false := rfl
theorem sees_end {s : ByteArray} {c : UInt8} {k : Nat} (bad : Bool) (h : s.size ≤ k) : seesB s c k bad = false := by
  unfold seesB; rw [at_none h]; simp
theorem sees_hit {s : ByteArray} {c : UInt8} {k : Nat} (h : k < s.size) (hc : s[k] = c) : seesB s c k false = true := by
  unfold seesB; rw [at_some h, hc]; simp
theorem sees_miss {s : ByteArray} {c : UInt8} {k : Nat} (bad : Bool) (h : k < s.size) (hc : s[k] ≠ c) : seesB s c k bad = false := by
  unfold seesB; rw [at_some h]; simp [hc]

set_option maxHeartbeats 800000 in
theorem sees_any (b : Nat) (s : ByteArray) (k : Nat) (bad : Bool) (c : UInt8) (w : World) (_hs : s.size ≤ 1048576) (hr : Rd w b s k bad) :
    Calls Tryz.prog 76 #[.pointer (some ⟨b, 0, none⟩), .int .u8 (c.toNat : Int)] w fun e w' => e = .returned (.bool (seesB s c k bad)) ∧ ∃ n, w' = w.drewN n := by
  have c0 := hr.c0
  have c1 := hr.c1
  have c2 := hr.c2
  clear hr
  cases bad with
  | true =>
    rw [sees_bad]
    go_enter Tryz.func76, Tryz.ntmps76
    go_wp2
    go_quiet (fail)
    go_wp2
    go_ret
    exact ⟨rfl, _, rfl⟩
  | false =>
    by_cases hk : k < s.size
    · have hi : (k : Int) < (s.size : Int) := by omega
      have hi0 : (0 : Int) ≤ (k : Int) := by omega
      have hd : decide (k < s.size) = true := decide_eq_true hk
      by_cases hc : s[k] = c
      · have e : seesB s c k false = true := sees_hit hk hc
        rw [e]
        have hne : ((s[k].toNat : Int) == (c.toNat : Int)) = true := by rw [hc]; simp
        clear e hc
        go_enter Tryz.func76, Tryz.ntmps76
        go_wp2
        go_quiet (fail)
        go_wp2
        go_ret
        exact ⟨rfl, _, rfl⟩
      · have e : seesB s c k false = false := sees_miss false hk hc
        rw [e]
        have hne : ((s[k].toNat : Int) == (c.toNat : Int)) = false := by
          rw [beq_eq_false_iff_ne]
          intro h
          exact hc (UInt8.toNat_inj.1 (by omega))
        clear e hc
        go_enter Tryz.func76, Tryz.ntmps76
        go_wp2
        go_quiet (fail)
        go_wp2
        go_ret
        exact ⟨rfl, _, rfl⟩
    · have e : seesB s c k false = false := sees_end false (by omega)
      rw [e]
      have hi : (s.size : Int) ≤ (k : Int) := by omega
      have hd : decide (k < s.size) = false := decide_eq_false hk
      clear e
      go_enter Tryz.func76, Tryz.ntmps76
      go_wp2
      go_quiet (fail)
      go_wp2
      go_ret
      exact ⟨rfl, _, rfl⟩

/-- What 'Take' does to place and bad. -/
def signM (s : ByteArray) (c : UInt8) (k : Nat) (bad : Bool) : Nat × Bool := if seesB s c k bad = true then (k + 1, bad) else (k, true)

theorem sees_lt {s : ByteArray} {c : UInt8} {k : Nat} {bad : Bool} (h : seesB s c k bad = true) : k < s.size := by
  rcases Nat.lt_or_ge k s.size with h2 | h2
  · exact h2
  · rw [sees_end bad h2] at h; cases h

set_option maxHeartbeats 400000 in
theorem sign_any (b : Nat) (s : ByteArray) (k : Nat) (bad : Bool) (c : UInt8) (w : World) (hs : s.size ≤ 1048576) (hr : Rd w b s k bad) :
    Calls Tryz.prog 43 #[.pointer (some ⟨b, 0, none⟩), .int .u8 (c.toNat : Int)] w fun e w' => e = .returned (.tuple #[]) ∧ Rd w' b s (signM s c k bad).1 (signM s c k bad).2 ∧ w.grownBy w' (some b) := by
  have c1 := hr.c1
  have f1 := hr.f1
  have c2 := hr.c2
  have f2 := hr.f2
  have hsee := sees_any b s k bad c w hs hr
  have HR : Hid (Rd w b s k bad) := hr
  clear hr
  cases hS : seesB s c k bad with
  | true =>
    have hk := sees_lt hS
    have HM : Hid (signM s c k bad = (k + 1, bad)) := by
      show signM s c k bad = (k + 1, bad)
      unfold signM
      rw [hS, if_pos rfl]
    rw [hS] at hsee
    clear hS
    go_enter Tryz.func43, Tryz.ntmps43
    go_wp2_with fail
    refine hsee.mono ?_
    rintro e w1 ⟨rfl, n, rfl⟩
    clear hsee
    go_wp2
    go_end0
    rw [HM.out]
    exact ⟨rfl, (HR.out.drewN _).set1 (k + 1), grown_trans (grown_drewN _ _ _) (grown_set _ _ _ _)⟩
  | false =>
    have HM : Hid (signM s c k bad = (k, true)) := by
      show signM s c k bad = (k, true)
      unfold signM
      rw [hS, if_neg (by simp)]
    rw [hS] at hsee
    clear hS
    go_enter Tryz.func43, Tryz.ntmps43
    go_wp2_with fail
    refine hsee.mono ?_
    rintro e w1 ⟨rfl, n, rfl⟩
    clear hsee
    go_wp2
    go_returns
    rw [HM.out]
    exact ⟨rfl, (HR.out.drewN _).set2, grown_trans (grown_drewN _ _ _) (grown_set _ _ _ _)⟩

set_option maxHeartbeats 400000 in
theorem skip_any (b : Nat) (s : ByteArray) (k : Nat) (bad : Bool) (c : UInt8) (w : World) (hs : s.size ≤ 1048576) (hr : Rd w b s k bad) :
    Calls Tryz.prog 45 #[.pointer (some ⟨b, 0, none⟩), .int .u8 (c.toNat : Int)] w fun e w' => e = .returned (.bool (seesB s c k bad)) ∧ Rd w' b s (if seesB s c k bad = true then k + 1 else k) bad ∧ w.grownBy w' (some b) := by
  have c1 := hr.c1
  have f1 := hr.f1
  have hsee := sees_any b s k bad c w hs hr
  have HR : Hid (Rd w b s k bad) := hr
  clear hr
  cases hS : seesB s c k bad with
  | true =>
    have hk := sees_lt hS
    rw [hS] at hsee
    clear hS
    go_enter Tryz.func45, Tryz.ntmps45
    go_wp2_with fail
    refine hsee.mono ?_
    rintro e w1 ⟨rfl, n, rfl⟩
    clear hsee
    go_wp2
    go_ret
    exact ⟨rfl, (HR.out.drewN _).set1 (k + 1), grown_trans (grown_drewN _ _ _) (grown_set _ _ _ _)⟩
  | false =>
    rw [hS] at hsee
    clear hS
    go_enter Tryz.func45, Tryz.ntmps45
    go_wp2_with fail
    refine hsee.mono ?_
    rintro e w1 ⟨rfl, n, rfl⟩
    clear hsee
    go_wp2
    go_ret
    exact ⟨rfl, HR.out.drewN _, grown_drewN _ _ _⟩

theorem fail_any (b : Nat) (s : ByteArray) (k : Nat) (bad : Bool) (w : World) (hr : Rd w b s k bad) :
    Calls Tryz.prog 79 #[.pointer (some ⟨b, 0, none⟩)] w fun e w' => e = .returned (.tuple #[]) ∧ Rd w' b s k true ∧ w.grownBy w' (some b) := by
  have c2 := hr.c2
  have f2 := hr.f2
  have HR : Hid (Rd w b s k bad) := hr
  clear hr
  go_enter Tryz.func79, Tryz.ntmps79
  go_wp2
  go_end0
  exact ⟨rfl, HR.out.set2, grown_set _ _ _ _⟩

theorem isBad_any (b : Nat) (s : ByteArray) (k : Nat) (bad : Bool) (w : World) (hr : Rd w b s k bad) :
    Calls Tryz.prog 38 #[.pointer (some ⟨b, 0, none⟩)] w fun e w' => e = .returned (.bool bad) ∧ w' = w := by
  have c2 := hr.c2
  clear hr
  go_enter Tryz.func38, Tryz.ntmps38
  go_wp2
  go_ret
  exact ⟨rfl, rfl⟩

theorem left_any (b : Nat) (s : ByteArray) (k : Nat) (bad : Bool) (w : World) (hs : s.size ≤ 1048576) (hk : k ≤ s.size) (hr : Rd w b s k bad) :
    Calls Tryz.prog 36 #[.pointer (some ⟨b, 0, none⟩)] w fun e w' => e = .returned (.int .i64 ((s.size : Int) - (k : Int))) ∧ ∃ n, w' = w.drewN n := by
  have c0 := hr.c0
  have c1 := hr.c1
  clear hr
  go_enter Tryz.func36, Tryz.ntmps36
  go_wp2
  go_quiet (fail)
  go_wp2
  go_ret
  exact ⟨rfl, _, rfl⟩

theorem new_any (s : ByteArray) (w : World) :
    Calls Tryz.prog 35 #[.string s] w fun e w' => e = .returned (.agg #[.string s, .int .i64 0, .bool false]) ∧ Below w.heap.size w w' := by
  go_enter Tryz.func35, Tryz.ntmps35
  go_wp2
  refine bodyPost_ret (v := .agg #[.string s, .int .i64 0, .bool false]) (by simp [results, Tryz.results35, go_sem]) rfl ⟨rfl, ?_⟩
  exact (Below.refl _ _).alloc (Nat.le_refl _) _
end Go.Proofs.YtmbapmbpnnaanabGreat.Ld
namespace Go.Proofs.YtmbapmbpnnaanabGreat.Ld
open Go.RowKit

def lowB (c : UInt8) : Bool := decide (97 ≤ c.toNat ∧ c.toNat ≤ 100)
theorem is_any (c : UInt8) (w : World) : Calls Tryz.prog 97 #[.int .u8 (c.toNat : Int)] w fun e w' => e = .returned (.bool (lowB c)) ∧ w' = w := by
  by_cases h1 : (97 : Int) ≤ (c.toNat : Int)
  · by_cases h2 : (c.toNat : Int) ≤ 100
    · have e : lowB c = true := by unfold lowB; exact decide_eq_true ⟨by omega, by omega⟩
      rw [e]
      go_enter Tryz.func97, Tryz.ntmps97
      go_wp2
      go_ret
      exact ⟨rfl, rfl⟩
    · have e : lowB c = false := by unfold lowB; exact decide_eq_false (by omega)
      rw [e]
      go_enter Tryz.func97, Tryz.ntmps97
      go_wp2
      go_ret
      exact ⟨rfl, rfl⟩
  · have e : lowB c = false := by unfold lowB; exact decide_eq_false (by omega)
    rw [e]
    go_enter Tryz.func97, Tryz.ntmps97
    go_wp2
    go_ret
    exact ⟨rfl, rfl⟩

theorem said_any (c : UInt8) (w : World) : Calls Tryz.prog 98 #[.int .u8 (c.toNat : Int)] w fun e w' => e = .returned (.bool (letB c)) ∧ w' = w := by
  have his := is_any c w
  have hc := c.toNat_lt
  cases hl : lowB c with
  | true =>
    have e : letB c = true := by
      have := of_decide_eq_true hl
      unfold letB; exact decide_eq_true (by omega)
    rw [e]
    rw [hl] at his
    clear hl e
    go_enter Tryz.func98, Tryz.ntmps98
    go_wp2_with fail
    refine his.mono ?_
    rintro e w1 ⟨rfl, rfl⟩
    clear his
    go_wp2
    go_ret
    exact ⟨rfl, rfl⟩
  | false =>
    have hn := of_decide_eq_false hl
    rw [hl] at his
    by_cases h3 : (65 : Int) ≤ (c.toNat : Int)
    · by_cases h2 : (c.toNat : Int) ≤ 68
      · have e : letB c = true := by unfold letB; exact decide_eq_true (by omega)
        rw [e]
        clear hl e hn
        go_enter Tryz.func98, Tryz.ntmps98
        go_wp2_with fail
        refine his.mono ?_
        rintro e w1 ⟨rfl, rfl⟩
        clear his
        go_wp2
        go_ret
        exact ⟨rfl, rfl⟩
      · have e : letB c = false := by unfold letB; exact decide_eq_false (by omega)
        rw [e]
        clear hl e hn
        go_enter Tryz.func98, Tryz.ntmps98
        go_wp2_with fail
        refine his.mono ?_
        rintro e w1 ⟨rfl, rfl⟩
        clear his
        go_wp2
        go_ret
        refine ⟨?_, rfl⟩
        show Ending.returned (.bool (decide ((c.toNat : Int) ≤ 68))) = _
        rw [decide_eq_false (by omega)]
    · have e : letB c = false := by unfold letB; exact decide_eq_false (by omega)
      rw [e]
      clear hl e hn
      go_enter Tryz.func98, Tryz.ntmps98
      go_wp2_with fail
      refine his.mono ?_
      rintro e w1 ⟨rfl, rfl⟩
      clear his
      go_wp2
      go_ret
      exact ⟨rfl, rfl⟩

/-- The classes of bytes that Read comes to: letters that may be said, digits. -/
def clsB (d : Bool) (c : UInt8) : Bool := if d = true then digB c else letB c
def clsN (d : Bool) : Int := if d = true then 2 else 1
theorem has_said (c : UInt8) (w : World) : Calls Tryz.prog 75 #[.int .i64 1, .int .u8 (c.toNat : Int)] w fun e w' => e = .returned (.bool (letB c)) ∧ w' = w := by
  have hsaid := said_any c w
  go_enter Tryz.func75, Tryz.ntmps75
  go_wp2_with fail
  refine hsaid.mono ?_
  rintro e w1 ⟨rfl, rfl⟩
  clear hsaid
  go_wp2
  go_ret
  exact ⟨rfl, rfl⟩
theorem has_digit (c : UInt8) (w : World) : Calls Tryz.prog 75 #[.int .i64 2, .int .u8 (c.toNat : Int)] w fun e w' => e = .returned (.bool (digB c)) ∧ w' = w := by
  by_cases h1 : (48 : Int) ≤ (c.toNat : Int)
  · by_cases h2 : (c.toNat : Int) ≤ 57
    · have e : digB c = true := by unfold digB; exact decide_eq_true ⟨by omega, by omega⟩
      rw [e]
      go_enter Tryz.func75, Tryz.ntmps75
      go_wp2
      go_ret
      exact ⟨rfl, rfl⟩
    · have e : digB c = false := by unfold digB; exact decide_eq_false (by omega)
      rw [e]
      go_enter Tryz.func75, Tryz.ntmps75
      go_wp2
      go_ret
      exact ⟨rfl, rfl⟩
  · have e : digB c = false := by unfold digB; exact decide_eq_false (by omega)
    rw [e]
    go_enter Tryz.func75, Tryz.ntmps75
    go_wp2
    go_ret
    exact ⟨rfl, rfl⟩
theorem has_any (d : Bool) (c : UInt8) (w : World) : Calls Tryz.prog 75 #[.int .i64 (clsN d), .int .u8 (c.toNat : Int)] w fun e w' => e = .returned (.bool (clsB d c)) ∧ w' = w := by
  cases d with
  | true => exact has_digit c w
  | false => exact has_said c w

/-- The place, as the world has it: for a measure. -/
def kOf (w : World) (b : Nat) : Nat := (intOf ((w.cell? ⟨b, 1, none⟩).getD (.int .i64 0))).toNat
theorem Rd.kOf {w b s k bad} (h : Rd w b s k bad) : kOf w b = k := by unfold YtmbapmbpnnaanabGreat.Ld.kOf; rw [h.c1]; simp [intOf]

theorem lt_meas {w w' b s k k' bad bad'} (h : Rd w b s k bad) (h' : Rd w' b s k' bad') (h1 : k < k') (h2 : k < s.size) : s.size - kOf w' b < s.size - kOf w b := by rw [h.kOf, h'.kOf]; omega

theorem ret_int {k : IntKind} {a b : Int} (h : a = b) : Ending.returned (.int k a) = .returned (.int k b) := by rw [h]
theorem toList_data (s : ByteArray) : s.toList = s.data.toList := by
  have := Lib.extract_toList s 0 s.size
  have h2 : s.extract 0 s.size = s := by simp
  rw [h2] at this
  rw [this, List.drop_zero, Nat.sub_zero]
  refine List.take_of_length_le ?_
  show s.data.toList.length ≤ s.data.size
  simp
theorem empty_iff (s : ByteArray) : s.toList.isEmpty = decide (s.size = 0) := by
  rw [toList_data]
  cases h : s.data.toList with
  | nil =>
    have : s.size = 0 := by show s.data.size = 0; rw [← Array.length_toList, h]; rfl
    simp [this]
  | cons a l =>
    have : ¬ s.size = 0 := by show ¬ s.data.size = 0; rw [← Array.length_toList, h]; simp
    simp [this]

end Go.Proofs.YtmbapmbpnnaanabGreat.Ld
namespace Go.Proofs.YtmbapmbpnnaanabGreat.Ld
open Go.RowKit
attribute [local go_sem ↓] Go.wp_at_zero Go.wp_at_succ

theorem Tryz.info5 : (Tryz.prog.info? 5).map (fun i => (i.zero, i.size, i.bytes)) = some (some (.int .u8 0), 1, 1) := by kernel_rfl

theorem Rd.grown {w w' b s k bad} {row : Option Nat} (h : Rd w b s k bad) (hg : w.grownBy w' row) (hne : some b ≠ row) : Rd w' b s k bad :=
  (hg.block b h.lt hne).trans h
theorem Rd.alloc {w b s k bad} (h : Rd w b s k bad) (o : Obj) : Rd (w.alloc o) b s k bad := h.grown (World.grownBy_alloc w o none) (by simp)
theorem grown_new {w w1 w2 : World} {row row' : Option Nat} (h1 : w.grownBy w1 row) (h2 : w1.grownBy w2 row') (hn : ∀ g, row' = some g → w.heap.size ≤ g) : w.grownBy w2 row :=
  ⟨h2.os.trans h1.os, h2.tape.trans h1.tape, h2.output.trans h1.output, Nat.le_trans h1.size h2.size,
   fun k hk hne => (h2.block k (Nat.lt_of_lt_of_le hk h1.size) (fun e => by have := hn k e.symm; omega)).trans (h1.block k hk hne)⟩

section
variable {b : Nat} {s : ByteArray} {k p : Nat} {bad : Bool} {t : List UInt8} {w wr : World} {n : Nat}
abbrev RunPost (b : Nat) (s : ByteArray) (k : Nat) (bad : Bool) (t : List UInt8) (w : World) (e : Ending) (w' : World) : Prop :=
  e = .returned (.string ⟨t.toArray⟩) ∧ Rd w' b s (k + t.length) bad ∧ w.grownBy w' (some b)
theorem run_fin (hp : p = k + t.length) (hr : Rd wr b s p bad) (hg : w.grownBy wr (some b)) :
    RunPost b s k bad t w (.returned (.string ⟨t.toArray⟩)) (wr.drewN n) := by
  refine ⟨rfl, ?_, grown_trans hg (grown_drewN _ _ _)⟩
  rw [← hp]
  exact hr.drewN n
end

set_option maxHeartbeats 1600000 in
set_option maxRecDepth 100000 in
theorem run_any (d : Bool) (b : Nat) (s : ByteArray) (k : Nat) (bad : Bool) (w : World) (hs : s.size ≤ 1048576) (hks : k ≤ s.size) (hr : Rd w b s k bad) :
    Calls Tryz.prog 42 #[.pointer (some ⟨b, 0, none⟩), .int .i64 (clsN d)] w fun e w' => RunPost b s k bad (run (clsB d) s.data.toList k) w e w' := by
  obtain ⟨i0, hinf, hz0, hz1, hz2⟩ := info_parts Tryz.info5
  obtain ⟨t, ht⟩ : ∃ t, t = run (clsB d) s.data.toList k := ⟨_, rfl⟩
  rw [← ht]
  have hle : k + t.length ≤ s.size := by have := run_le (clsB d) s.data.toList k (by simpa using hks); rw [← ht] at this; simpa using this
  have hin : ∀ j, j ≤ t.length → (j < t.length ↔ ∃ c, s.data.toList[k + j]? = some c ∧ clsB d c = true) := fun j hj => by rw [ht] at hj ⊢; exact run_iff _ _ _ _ hj
  have htk : ∀ j c, j < t.length → s.data.toList[k + j]? = some c → t.take (j + 1) = t.take j ++ [c] := fun j c hj hc => by rw [ht] at hj ⊢; exact run_take _ _ _ _ _ hj hc
  have hhas := has_any d
  obtain ⟨D, hD⟩ : ∃ D, D = clsN d := ⟨_, rfl⟩
  obtain ⟨P, hP⟩ : ∃ P, P = clsB d := ⟨_, rfl⟩
  rw [← hD, ← hP] at hhas
  rw [← hP] at hin
  rw [← hD]
  have HR : Hid (Rd w b s k bad) := hr
  have Hin : Hid (∀ j, j ≤ t.length → (j < t.length ↔ ∃ c, s.data.toList[k + j]? = some c ∧ P c = true)) := hin
  have Htk : Hid (∀ j c, j < t.length → s.data.toList[k + j]? = some c → t.take (j + 1) = t.take j ++ [c]) := htk
  have HH : Hid (∀ c w, Calls Tryz.prog 75 #[.int .i64 D, .int .u8 ((c : UInt8).toNat : Int)] w fun e w' => e = .returned (.bool (P c)) ∧ w' = w) := hhas
  have hblt := hr.lt
  clear ht hr hin htk hhas hD hP
  go_enter Tryz.func42, Tryz.ntmps42
  go_wp2
  go_loopw [5] (fun v wr => ∃ j : Nat, j ≤ t.length ∧ wr.ownsRow w.heap.size 5 1 v j (Lib.byteCells (t.take j)) ∧ Rd wr b s (k + j) bad ∧ w.grownBy wr (some b)) (fun _ wr => s.size - kOf wr b)
  case atStart => exact ⟨0, Nat.zero_le _, by simpa [Lib.byteCells] using World.ownsRow_nil _ _ _ _, HR.out, World.grownBy.refl _ _⟩
  case round =>
    obtain ⟨j, hj, hown, hrj, hgj⟩ := hrel
    obtain ⟨p, hp⟩ : ∃ p, p = k + j := ⟨_, rfl⟩
    rw [← hp] at hrj
    have c0 := hrj.c0
    have c1 := hrj.c1
    have c2 := hrj.c2
    have f1 := hrj.f1
    have f2 := hrj.f2
    have HR2 : Hid (Rd wr b s p bad) := hrj
    have HG2 : Hid (w.grownBy wr (some b)) := hgj
    have HP : Hid (p = k + j) := hp
    have hps : p ≤ s.size := by omega
    have hsz := hgj.size
    have hvb := fun g h => (hown.lt g h).1
    have hvb2 : ∀ v : Value, (∀ g, v.ownBlock = some g → w.heap.size ≤ g) → some b ≠ v.ownBlock := fun v h e => by have := h b e.symm; omega
    clear hrj hgj HR hp
    by_cases hlt : p < s.size
    · have Hg : Hid (s.data.toList[p]? = some s[p]) := Lib.data_getElem? s p hlt
      have hi : (p : Int) < (s.size : Int) := by omega
      have hi0 : (0 : Int) ≤ (p : Int) := by omega
      have hd : decide (p < s.size) = true := decide_eq_true hlt
      by_cases hdg : P s[p] = true
      · have hjt : j < t.length := (Hin.out j hj).2 ⟨s[p], by rw [← HP.out]; exact Hg.out, hdg⟩
        go_wp2
        go_quiet ((go_at_call 75; exact Calls.quiet_of_same (HH.out _ _)))
        go_wp2_with fail
        have hown' : (wr.drewN nq).ownsRow w.heap.size 5 1 u5 j (Lib.byteCells (t.take j)) := hown
        have hbne := hvb2 u5 hvb
        go_region_held3 (fun w' => w'.cell? ⟨b, 0, none⟩ = some (.string s) ∧ w'.cell? ⟨b, 1, none⟩ = some (.int .i64 (p : Int)))
          (first
            | go_keep
            | (go_split_ands
               refine ⟨?_, ?_⟩
               · (rw [hgrow.cell_far _ (by simp; omega) hbne]; assumption)
               · (rw [hgrow.cell_far _ (by simp; omega) hbne]; assumption)))
          ((refine step_append_lies _ (by rfl) _ _ _ (by rfl) w.heap.size 5 i0 _ 1 1 Tryz.underlying185 hinf hz0 hz1 hz2 rfl (by omega) u5 j (Lib.byteCells (t.take j)) (by rfl) ((hown'.alloc _).drew)
              ⟨wr.heap.size, 0, none⟩ 1 1 [.int .u8 (s[p].toNat : Int)] (by rfl) (by rfl) (World.news_of_block (cs := #[.int .u8 (s[p].toNat : Int)]) (t := 5) (fr := (0, 0)) (heap_alloc_new (wr.drewN nq) _)) (by simp [Value.oneCell'])
              (by omega) (by unfold maxLen; omega) (by omega) (by simp; omega) (wr.heap.size + 1) (by simp) ?_; intro gg cap w1 hown1 hgrow hat hltt))
        have hr1 : Rd w1 b s p bad := Rd.grown ((HR2.out.drewN (nq + 1)).alloc _) hgrow hbne
        have hg1 : w.grownBy w1 (some b) := grown_new (grown_trans (grown_trans HG2.out (grown_drewN _ (nq + 1) _)) (World.grownBy_alloc _ _ _)) hgrow hvb
        have d0 := hr1.c0
        have d1 := hr1.c1
        have e1 := hr1.f1
        have HR3 : Hid (Rd w1 b s p bad) := hr1
        have HG3 : Hid (w.grownBy w1 (some b)) := hg1
        have HO3 : Hid (w1.ownsRow w.heap.size 5 1 (.slice (some ⟨gg, 0, none⟩) (j + 1) cap) (j + 1) (Lib.byteCells (t.take (j + 1)))) := by
          rw [Htk.out j s[p] hjt (by rw [← HP.out]; exact Hg.out)]
          show World.ownsRow _ _ _ _ _ _ _
          simpa [Lib.byteCells] using hown1
        clear hown' hown hown1 hr1 hg1 hgrow hbne c0 c1 c2 f1 f2 hat hvb hvb2 hinf hz0 hz1 hz2
        go_wp2
        go_roundw
        case rel =>
          refine ⟨j + 1, by omega, ownsRow_setCell_below HO3.out (by simpa using hblt) _, ?_, ?_⟩
          · have e : k + (j + 1) = p + 1 := by have := HP.out; omega
            rw [e]
            exact HR3.out.set1 (p + 1)
          · exact grown_trans HG3.out (grown_set _ _ _ _)
        case measure => exact lt_meas HR2.out (HR3.out.set1 (p + 1)) (by omega) hlt
      · have hdf : P s[p] = false := by simpa using hdg
        have hjt : ¬ j < t.length := fun h => by
          obtain ⟨c, h1, h2⟩ := (Hin.out j hj).1 h
          rw [← HP.out, Hg.out] at h1
          cases h1
          exact hdg h2
        obtain rfl : j = t.length := by omega
        clear hjt hdg Hg
        go_wp2
        go_quiet ((go_at_call 75; exact Calls.quiet_of_same (HH.out _ _)))
        rw [List.take_length] at hown
        rcases hown.2 with ⟨rfl, h0⟩ | ⟨g, cap, cur, rfl, -, -, -, -, -, -⟩
        · have hcv : ∀ wx, (convert 185 9 (.slice none 0 0)).run Tryz.prog wx = .ok (.string ⟨#[]⟩) wx := fun wx => by rw [run_convert_bytes_string wx 185 9 5 none 0 0 Tryz.underlying185 Tryz.underlying5 Tryz.underlying9]; rfl
          obtain rfl : t = [] := List.eq_nil_of_length_eq_zero h0
          go_wp2
          go_ret
          exact run_fin HP.out HR2.out HG2.out
        · have hcv1 := run_convert_bytes_back (P := Tryz.prog) (wr.drewN nq) 185 9 5 ⟨g, 0, none⟩ cap t Tryz.underlying185 Tryz.underlying5 Tryz.underlying9 (fun j hj => hown.cells (g := g) rfl j _ (by simp [Lib.byteCells, hj]))
          go_wp2
          go_ret
          exact run_fin HP.out HR2.out HG2.out
    · obtain rfl : j = t.length := by have := HP.out; omega
      have hd : decide (p < s.size) = false := decide_eq_false hlt
      go_wp2
      go_quiet ((go_at_call 75; exact Calls.quiet_of_same (HH.out _ _)))
      rw [List.take_length] at hown
      rcases hown.2 with ⟨rfl, h0⟩ | ⟨g, cap, cur, rfl, -, -, -, -, -, -⟩
      · have hcv : ∀ wx, (convert 185 9 (.slice none 0 0)).run Tryz.prog wx = .ok (.string ⟨#[]⟩) wx := fun wx => by rw [run_convert_bytes_string wx 185 9 5 none 0 0 Tryz.underlying185 Tryz.underlying5 Tryz.underlying9]; rfl
        obtain rfl : t = [] := List.eq_nil_of_length_eq_zero h0
        go_wp2
        go_ret
        exact run_fin HP.out HR2.out HG2.out
      · have hcv1 := run_convert_bytes_back (P := Tryz.prog) (wr.drewN nq) 185 9 5 ⟨g, 0, none⟩ cap t Tryz.underlying185 Tryz.underlying5 Tryz.underlying9 (fun j hj => hown.cells (g := g) rfl j _ (by simp [Lib.byteCells, hj]))
        go_wp2
        go_ret
        exact run_fin HP.out HR2.out HG2.out

theorem run_said (b : Nat) (s : ByteArray) (k : Nat) (bad : Bool) (w : World) (hs : s.size ≤ 1048576) (hk : k ≤ s.size) (hr : Rd w b s k bad) :
    Calls Tryz.prog 42 #[.pointer (some ⟨b, 0, none⟩), .int .i64 1] w fun e w' => RunPost b s k bad (run letB s.data.toList k) w e w' := run_any false b s k bad w hs hk hr
theorem run_digit (b : Nat) (s : ByteArray) (k : Nat) (bad : Bool) (w : World) (hs : s.size ≤ 1048576) (hk : k ≤ s.size) (hr : Rd w b s k bad) :
    Calls Tryz.prog 42 #[.pointer (some ⟨b, 0, none⟩), .int .i64 2] w fun e w' => RunPost b s k bad (run digB s.data.toList k) w e w' := run_any true b s k bad w hs hk hr
end Go.Proofs.YtmbapmbpnnaanabGreat.Ld
