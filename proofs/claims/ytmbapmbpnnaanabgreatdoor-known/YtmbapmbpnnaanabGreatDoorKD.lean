import Derived.Test.YtmbapmbpnnaanabGreatDoorKA
namespace Go.Proofs.YtmbapmbpnnaanabGreatDoor
open Go.RowKit

theorem tw_iff (p : UInt8 → Bool) : ∀ (l : List UInt8) (j : Nat), j ≤ (l.takeWhile p).length → (j < (l.takeWhile p).length ↔ ∃ c, l[j]? = some c ∧ p c = true)
  | [], j, h => by simp
  | a :: l, j, h => by
    by_cases ha : p a = true
    · rw [List.takeWhile_cons_of_pos ha] at h ⊢
      match j with
      | 0 => simp [ha]
      | j + 1 =>
        have := tw_iff p l j (by simpa using h)
        simpa using this
    · rw [List.takeWhile_cons_of_neg ha] at h ⊢
      have : j = 0 := by simpa using h
      subst this
      simp [ha]

theorem tw_get (p : UInt8 → Bool) : ∀ (l : List UInt8) (j : Nat), j < (l.takeWhile p).length → (l.takeWhile p)[j]? = l[j]?
  | [], j, h => by simp at h
  | a :: l, j, h => by
    by_cases ha : p a = true
    · rw [List.takeWhile_cons_of_pos ha] at h ⊢
      match j with
      | 0 => simp
      | j + 1 => simpa using tw_get p l j (by simpa using h)
    · rw [List.takeWhile_cons_of_neg ha] at h
      simp at h

theorem tw_le (p : UInt8 → Bool) (l : List UInt8) : (l.takeWhile p).length ≤ l.length := (List.takeWhile_sublist p).length_le

theorem tw_append (p : UInt8 → Bool) (l : List UInt8) : l.takeWhile p ++ l.drop (l.takeWhile p).length = l := by
  induction l with
  | nil => simp
  | cons a l ih =>
    by_cases ha : p a = true
    · rw [List.takeWhile_cons_of_pos ha]; simp [ih]
    · rw [List.takeWhile_cons_of_neg ha]; simp

/-- The run of bytes from k on. -/
def run (p : UInt8 → Bool) (l : List UInt8) (k : Nat) : List UInt8 := (l.drop k).takeWhile p

theorem run_iff (p : UInt8 → Bool) (l : List UInt8) (k j : Nat) (h : j ≤ (run p l k).length) : (j < (run p l k).length ↔ ∃ c, l[k + j]? = some c ∧ p c = true) := by
  have := tw_iff p (l.drop k) j h
  simpa [run] using this
theorem run_get (p : UInt8 → Bool) (l : List UInt8) (k j : Nat) (h : j < (run p l k).length) : (run p l k)[j]? = l[k + j]? := by
  have := tw_get p (l.drop k) j h
  simpa [run] using this
theorem run_le (p : UInt8 → Bool) (l : List UInt8) (k : Nat) (hk : k ≤ l.length) : k + (run p l k).length ≤ l.length := by
  have := tw_le p (l.drop k)
  simp at this
  simp only [run]
  omega
theorem run_take (p : UInt8 → Bool) (l : List UInt8) (k j : Nat) (c : UInt8) (h : j < (run p l k).length) (hc : l[k + j]? = some c) : (run p l k).take (j + 1) = (run p l k).take j ++ [c] := by
  have hg := run_get p l k j h
  rw [List.take_add_one, hg, hc]
  rfl
theorem run_drop (p : UInt8 → Bool) (l : List UInt8) (k : Nat) : l.drop k = run p l k ++ l.drop (k + (run p l k).length) := by
  have := tw_append p (l.drop k)
  rw [List.drop_drop] at this
  exact this.symm

/-- The reader in block b: the text, the place, bad; X: what lies behind it in the block. -/
def Rd (w : World) (b : Nat) (X : List Value) (T : Nat) (s : ByteArray) (k : Nat) (bad : Bool) : Prop := Blk w b (.string s :: .int .i64 (k : Int) :: .bool bad :: X) T

theorem Rd.c0 {w b X T s k bad} (h : Rd w b X T s k bad) : w.cell? ⟨b, 0, none⟩ = some (.string s) := Blk.cell h 0 rfl
theorem Rd.c1 {w b X T s k bad} (h : Rd w b X T s k bad) : w.cell? ⟨b, 1, none⟩ = some (.int .i64 (k : Int)) := Blk.cell h 1 rfl
theorem Rd.c2 {w b X T s k bad} (h : Rd w b X T s k bad) : w.cell? ⟨b, 2, none⟩ = some (.bool bad) := Blk.cell h 2 rfl
theorem Rd.f1 {w b X T s k bad} (h : Rd w b X T s k bad) : w.frozen? ⟨b, 1, none⟩ = false := Blk.free h 1
theorem Rd.f2 {w b X T s k bad} (h : Rd w b X T s k bad) : w.frozen? ⟨b, 2, none⟩ = false := Blk.free h 2
theorem Rd.lt {w b X T s k bad} (h : Rd w b X T s k bad) : b < w.heap.size := Blk.lt h
theorem Rd.set1 {w b X T s k bad} (h : Rd w b X T s k bad) (k' : Nat) : Rd (w.setCell ⟨b, 1, none⟩ (.int .i64 (k' : Int))) b X T s k' bad := Blk.set h 1 _
theorem Rd.set2 {w b X T s k bad} (h : Rd w b X T s k bad) : Rd (w.setCell ⟨b, 2, none⟩ (.bool true)) b X T s k true := Blk.set h 2 _
theorem Rd.drewN {w b X T s k bad} (h : Rd w b X T s k bad) (n : Nat) : Rd (w.drewN n) b X T s k bad := h

theorem grown_set (w : World) (b o : Nat) (v : Value) : w.grownBy (w.setCell ⟨b, o, none⟩ v) (some b) :=
  ⟨rfl, rfl, rfl, by simp [World.setCell], fun k _ hne => Below.heap_setCell _ _ _ _ (by intro h; exact hne (by rw [h]))⟩
theorem grown_drewN (w : World) (n : Nat) (row : Option Nat) : w.grownBy (w.drewN n) row := ⟨rfl, rfl, rfl, Nat.le_refl _, fun _ _ _ => rfl⟩
theorem grown_trans {w w1 w2 : World} {row : Option Nat} (h1 : w.grownBy w1 row) (h2 : w1.grownBy w2 row) : w.grownBy w2 row :=
  ⟨h2.os.trans h1.os, h2.tape.trans h1.tape, h2.output.trans h1.output, Nat.le_trans h1.size h2.size,
   fun k hk hne => (h2.block k (Nat.lt_of_lt_of_le hk h1.size) hne).trans (h1.block k hk hne)⟩

/-- Whether the byte c stands next. -/
def seesB (s : ByteArray) (c : UInt8) (k : Nat) (bad : Bool) : Bool := !bad && decide (s.data.toList[k]? = some c)

theorem at_none {s : ByteArray} {k : Nat} (h : s.size ≤ k) : s.data.toList[k]? = none := List.getElem?_eq_none (by simpa using h)
theorem at_some {s : ByteArray} {k : Nat} (h : k < s.size) : s.data.toList[k]? = some s[k] := by
  rw [List.getElem?_eq_getElem (by simpa using h)]; rfl
theorem sees_bad (s : ByteArray) (c : UInt8) (k : Nat) : seesB s c k true = false := rfl
theorem sees_end {s : ByteArray} {c : UInt8} {k : Nat} (bad : Bool) (h : s.size ≤ k) : seesB s c k bad = false := by
  unfold seesB; rw [at_none h]; simp
theorem sees_hit {s : ByteArray} {c : UInt8} {k : Nat} (h : k < s.size) (hc : s[k] = c) : seesB s c k false = true := by
  unfold seesB; rw [at_some h, hc]; simp
theorem sees_miss {s : ByteArray} {c : UInt8} {k : Nat} (bad : Bool) (h : k < s.size) (hc : s[k] ≠ c) : seesB s c k bad = false := by
  unfold seesB; rw [at_some h]; simp [hc]

set_option maxHeartbeats 800000 in
theorem sees_any (b : Nat) (X : List Value) (T : Nat) (s : ByteArray) (k : Nat) (bad : Bool) (c : UInt8) (w : World) (_hs : s.size ≤ 1048576) (hr : Rd w b X T s k bad) :
    Calls Tryz.prog 115 #[.pointer (some ⟨b, 0, none⟩), .int .u8 (c.toNat : Int)] w fun e w' => e = .returned (.bool (seesB s c k bad)) ∧ ∃ n, w' = w.drewN n := by
  have c0 := hr.c0
  have c1 := hr.c1
  have c2 := hr.c2
  clear hr
  cases bad with
  | true =>
    rw [sees_bad]
    go_enter Tryz.func115, Tryz.ntmps115
    go_wp2
    go_quiet (fail)
    go_wp2
    go_ret
    exact ⟨rfl, _, rfl⟩
  | false =>
    by_cases hk : k < s.size
    · have hi : (k : Int) < (s.size : Int) := by omega
      have hi0 : (0 : Int) ≤ (k : Int) := by omega
      have hd : decide (k < s.size) = true := decide_eq_true hk
      by_cases hc : s[k] = c
      · have e : seesB s c k false = true := sees_hit hk hc
        rw [e]
        have hne : ((s[k].toNat : Int) == (c.toNat : Int)) = true := by rw [hc]; simp
        clear e hc
        go_enter Tryz.func115, Tryz.ntmps115
        go_wp2
        go_quiet (fail)
        go_wp2
        go_ret
        exact ⟨rfl, _, rfl⟩
      · have e : seesB s c k false = false := sees_miss false hk hc
        rw [e]
        have hne : ((s[k].toNat : Int) == (c.toNat : Int)) = false := by
          rw [beq_eq_false_iff_ne]
          intro h
          exact hc (UInt8.toNat_inj.1 (by omega))
        clear e hc
        go_enter Tryz.func115, Tryz.ntmps115
        go_wp2
        go_quiet (fail)
        go_wp2
        go_ret
        exact ⟨rfl, _, rfl⟩
    · have e : seesB s c k false = false := sees_end false (by omega)
      rw [e]
      have hi : (s.size : Int) ≤ (k : Int) := by omega
      have hd : decide (k < s.size) = false := decide_eq_false hk
      clear e
      go_enter Tryz.func115, Tryz.ntmps115
      go_wp2
      go_quiet (fail)
      go_wp2
      go_ret
      exact ⟨rfl, _, rfl⟩

/-- What 'Take' does to place and bad. -/
def signM (s : ByteArray) (c : UInt8) (k : Nat) (bad : Bool) : Nat × Bool := if seesB s c k bad = true then (k + 1, bad) else (k, true)

theorem sees_lt {s : ByteArray} {c : UInt8} {k : Nat} {bad : Bool} (h : seesB s c k bad = true) : k < s.size := by
  rcases Nat.lt_or_ge k s.size with h2 | h2
  · exact h2
  · rw [sees_end bad h2] at h; cases h

set_option maxHeartbeats 400000 in
theorem sign_any (b : Nat) (X : List Value) (T : Nat) (s : ByteArray) (k : Nat) (bad : Bool) (c : UInt8) (w : World) (hs : s.size ≤ 1048576) (hr : Rd w b X T s k bad) :
    Calls Tryz.prog 81 #[.pointer (some ⟨b, 0, none⟩), .int .u8 (c.toNat : Int)] w fun e w' => e = .returned (.tuple #[]) ∧ Rd w' b X T s (signM s c k bad).1 (signM s c k bad).2 ∧ w.grownBy w' (some b) := by
  have c1 := hr.c1
  have f1 := hr.f1
  have c2 := hr.c2
  have f2 := hr.f2
  have hsee := sees_any b X T s k bad c w hs hr
  have HR : Hid (Rd w b X T s k bad) := hr
  clear hr
  cases hS : seesB s c k bad with
  | true =>
    have hk := sees_lt hS
    have HM : Hid (signM s c k bad = (k + 1, bad)) := by
      show signM s c k bad = (k + 1, bad)
      unfold signM
      rw [hS, if_pos rfl]
    rw [hS] at hsee
    clear hS
    go_enter Tryz.func81, Tryz.ntmps81
    go_wp2_with fail
    refine hsee.mono ?_
    rintro e w1 ⟨rfl, n, rfl⟩
    clear hsee
    go_wp2
    go_end0
    rw [HM.out]
    exact ⟨rfl, (HR.out.drewN _).set1 (k + 1), grown_trans (grown_drewN _ _ _) (grown_set _ _ _ _)⟩
  | false =>
    have HM : Hid (signM s c k bad = (k, true)) := by
      show signM s c k bad = (k, true)
      unfold signM
      rw [hS, if_neg (by simp)]
    rw [hS] at hsee
    clear hS
    go_enter Tryz.func81, Tryz.ntmps81
    go_wp2_with fail
    refine hsee.mono ?_
    rintro e w1 ⟨rfl, n, rfl⟩
    clear hsee
    go_wp2
    go_returns
    rw [HM.out]
    exact ⟨rfl, (HR.out.drewN _).set2, grown_trans (grown_drewN _ _ _) (grown_set _ _ _ _)⟩

set_option maxHeartbeats 400000 in
theorem skip_any (b : Nat) (X : List Value) (T : Nat) (s : ByteArray) (k : Nat) (bad : Bool) (c : UInt8) (w : World) (hs : s.size ≤ 1048576) (hr : Rd w b X T s k bad) :
    Calls Tryz.prog 83 #[.pointer (some ⟨b, 0, none⟩), .int .u8 (c.toNat : Int)] w fun e w' => e = .returned (.bool (seesB s c k bad)) ∧ Rd w' b X T s (if seesB s c k bad = true then k + 1 else k) bad ∧ w.grownBy w' (some b) := by
  have c1 := hr.c1
  have f1 := hr.f1
  have hsee := sees_any b X T s k bad c w hs hr
  have HR : Hid (Rd w b X T s k bad) := hr
  clear hr
  cases hS : seesB s c k bad with
  | true =>
    have hk := sees_lt hS
    rw [hS] at hsee
    clear hS
    go_enter Tryz.func83, Tryz.ntmps83
    go_wp2_with fail
    refine hsee.mono ?_
    rintro e w1 ⟨rfl, n, rfl⟩
    clear hsee
    go_wp2
    go_ret
    exact ⟨rfl, (HR.out.drewN _).set1 (k + 1), grown_trans (grown_drewN _ _ _) (grown_set _ _ _ _)⟩
  | false =>
    rw [hS] at hsee
    clear hS
    go_enter Tryz.func83, Tryz.ntmps83
    go_wp2_with fail
    refine hsee.mono ?_
    rintro e w1 ⟨rfl, n, rfl⟩
    clear hsee
    go_wp2
    go_ret
    exact ⟨rfl, HR.out.drewN _, grown_drewN _ _ _⟩

theorem fail_any (b : Nat) (X : List Value) (T : Nat) (s : ByteArray) (k : Nat) (bad : Bool) (w : World) (hr : Rd w b X T s k bad) :
    Calls Tryz.prog 118 #[.pointer (some ⟨b, 0, none⟩)] w fun e w' => e = .returned (.tuple #[]) ∧ Rd w' b X T s k true ∧ w.grownBy w' (some b) := by
  have c2 := hr.c2
  have f2 := hr.f2
  have HR : Hid (Rd w b X T s k bad) := hr
  clear hr
  go_enter Tryz.func118, Tryz.ntmps118
  go_wp2
  go_end0
  exact ⟨rfl, HR.out.set2, grown_set _ _ _ _⟩

theorem isBad_any (b : Nat) (X : List Value) (T : Nat) (s : ByteArray) (k : Nat) (bad : Bool) (w : World) (hr : Rd w b X T s k bad) :
    Calls Tryz.prog 72 #[.pointer (some ⟨b, 0, none⟩)] w fun e w' => e = .returned (.bool bad) ∧ w' = w := by
  have c2 := hr.c2
  clear hr
  go_enter Tryz.func72, Tryz.ntmps72
  go_wp2
  go_ret
  exact ⟨rfl, rfl⟩

theorem left_any (b : Nat) (X : List Value) (T : Nat) (s : ByteArray) (k : Nat) (bad : Bool) (w : World) (hs : s.size ≤ 1048576) (hk : k ≤ s.size) (hr : Rd w b X T s k bad) :
    Calls Tryz.prog 70 #[.pointer (some ⟨b, 0, none⟩)] w fun e w' => e = .returned (.int .i64 ((s.size : Int) - (k : Int))) ∧ ∃ n, w' = w.drewN n := by
  have c0 := hr.c0
  have c1 := hr.c1
  clear hr
  go_enter Tryz.func70, Tryz.ntmps70
  go_wp2
  go_quiet (fail)
  go_wp2
  go_ret
  exact ⟨rfl, _, rfl⟩

/-- The place, as the world has it: for a measure. -/
def kOf (w : World) (b : Nat) : Nat := (intOf ((w.cell? ⟨b, 1, none⟩).getD (.int .i64 0))).toNat
theorem Rd.kOf {w b X T s k bad} (h : Rd w b X T s k bad) : kOf w b = k := by unfold YtmbapmbpnnaanabGreatDoor.kOf; rw [h.c1]; simp [intOf]

theorem lt_meas {w w' b X T s k k' bad bad'} (h : Rd w b X T s k bad) (h' : Rd w' b X T s k' bad') (h1 : k < k') (h2 : k < s.size) : s.size - kOf w' b < s.size - kOf w b := by rw [h.kOf, h'.kOf]; omega

attribute [local go_sem ↓] Go.wp_at_zero Go.wp_at_succ
theorem Tryz.info5 : (Tryz.prog.info? 5).map (fun i => (i.zero, i.size, i.bytes)) = some (some (.int .u8 0), 1, 1) := by kernel_rfl

theorem Rd.grown {w w' b X T s k bad} {row : Option Nat} (h : Rd w b X T s k bad) (hg : w.grownBy w' row) (hne : some b ≠ row) : Rd w' b X T s k bad :=
  (hg.block b h.lt hne).trans h
theorem Rd.alloc {w b X T s k bad} (h : Rd w b X T s k bad) (o : Obj) : Rd (w.alloc o) b X T s k bad := h.grown (World.grownBy_alloc w o none) (by simp)
theorem grown_new {w w1 w2 : World} {row row' : Option Nat} (h1 : w.grownBy w1 row) (h2 : w1.grownBy w2 row') (hn : ∀ g, row' = some g → w.heap.size ≤ g) : w.grownBy w2 row :=
  ⟨h2.os.trans h1.os, h2.tape.trans h1.tape, h2.output.trans h1.output, Nat.le_trans h1.size h2.size,
   fun k hk hne => (h2.block k (Nat.lt_of_lt_of_le hk h1.size) (fun e => by have := hn k e.symm; omega)).trans (h1.block k hk hne)⟩

section
variable {b : Nat} {X : List Value} {T : Nat} {s : ByteArray} {k p : Nat} {bad : Bool} {t : List UInt8} {w wr : World} {n : Nat}
abbrev RunPost (b : Nat) (X : List Value) (T : Nat) (s : ByteArray) (k : Nat) (bad : Bool) (t : List UInt8) (w : World) (e : Ending) (w' : World) : Prop :=
  e = .returned (.string ⟨t.toArray⟩) ∧ Rd w' b X T s (k + t.length) bad ∧ w.grownBy w' (some b)
theorem run_fin (hp : p = k + t.length) (hr : Rd wr b X T s p bad) (hg : w.grownBy wr (some b)) :
    RunPost b X T s k bad t w (.returned (.string ⟨t.toArray⟩)) (wr.drewN n) := by
  refine ⟨rfl, ?_, grown_trans hg (grown_drewN _ _ _)⟩
  rw [← hp]
  exact hr.drewN n
end

set_option maxHeartbeats 1600000 in
set_option maxRecDepth 100000 in
theorem run_any (d : Bool) (b : Nat) (X : List Value) (T : Nat) (s : ByteArray) (k : Nat) (bad : Bool) (w : World) (hs : s.size ≤ 1048576) (hks : k ≤ s.size) (hr : Rd w b X T s k bad) :
    Calls Tryz.prog 80 #[.pointer (some ⟨b, 0, none⟩), .int .i64 (clsN d)] w fun e w' => RunPost b X T s k bad (run (clsP d) s.data.toList k) w e w' := by
  obtain ⟨i0, hinf, hz0, hz1, hz2⟩ := info_parts Tryz.info5
  obtain ⟨t, ht⟩ : ∃ t, t = run (clsP d) s.data.toList k := ⟨_, rfl⟩
  rw [← ht]
  have hle : k + t.length ≤ s.size := by have := run_le (clsP d) s.data.toList k (by simpa using hks); rw [← ht] at this; simpa using this
  have hin : ∀ j, j ≤ t.length → (j < t.length ↔ ∃ c, s.data.toList[k + j]? = some c ∧ clsP d c = true) := fun j hj => by rw [ht] at hj ⊢; exact run_iff _ _ _ _ hj
  have htk : ∀ j c, j < t.length → s.data.toList[k + j]? = some c → t.take (j + 1) = t.take j ++ [c] := fun j c hj hc => by rw [ht] at hj ⊢; exact run_take _ _ _ _ _ hj hc
  have hhas := has_any d
  obtain ⟨D, hD⟩ : ∃ D, D = clsN d := ⟨_, rfl⟩
  obtain ⟨P, hP⟩ : ∃ P, P = clsP d := ⟨_, rfl⟩
  rw [← hD, ← hP] at hhas
  rw [← hP] at hin
  rw [← hD]
  have HR : Hid (Rd w b X T s k bad) := hr
  have Hin : Hid (∀ j, j ≤ t.length → (j < t.length ↔ ∃ c, s.data.toList[k + j]? = some c ∧ P c = true)) := hin
  have Htk : Hid (∀ j c, j < t.length → s.data.toList[k + j]? = some c → t.take (j + 1) = t.take j ++ [c]) := htk
  have HH : Hid (∀ c w, Calls Tryz.prog 114 #[.int .i64 D, .int .u8 ((c : UInt8).toNat : Int)] w fun e w' => e = .returned (.bool (P c)) ∧ w' = w) := hhas
  have hblt := hr.lt
  clear ht hr hin htk hhas hD hP
  go_enter Tryz.func80, Tryz.ntmps80
  go_wp2
  go_loopw [5] (fun v wr => ∃ j : Nat, j ≤ t.length ∧ wr.ownsRow w.heap.size 5 1 v j (Lib.byteCells (t.take j)) ∧ Rd wr b X T s (k + j) bad ∧ w.grownBy wr (some b)) (fun _ wr => s.size - kOf wr b)
  case atStart => exact ⟨0, Nat.zero_le _, by simpa [Lib.byteCells] using World.ownsRow_nil _ _ _ _, HR.out, World.grownBy.refl _ _⟩
  case round =>
    obtain ⟨j, hj, hown, hrj, hgj⟩ := hrel
    obtain ⟨p, hp⟩ : ∃ p, p = k + j := ⟨_, rfl⟩
    rw [← hp] at hrj
    have c0 := hrj.c0
    have c1 := hrj.c1
    have c2 := hrj.c2
    have f1 := hrj.f1
    have f2 := hrj.f2
    have HR2 : Hid (Rd wr b X T s p bad) := hrj
    have HG2 : Hid (w.grownBy wr (some b)) := hgj
    have HP : Hid (p = k + j) := hp
    have hps : p ≤ s.size := by omega
    have hsz := hgj.size
    have hvb := fun g h => (hown.lt g h).1
    have hvb2 : ∀ v : Value, (∀ g, v.ownBlock = some g → w.heap.size ≤ g) → some b ≠ v.ownBlock := fun v h e => by have := h b e.symm; omega
    clear hrj hgj HR hp
    by_cases hlt : p < s.size
    · have Hg : Hid (s.data.toList[p]? = some s[p]) := Lib.data_getElem? s p hlt
      have hi : (p : Int) < (s.size : Int) := by omega
      have hi0 : (0 : Int) ≤ (p : Int) := by omega
      have hd : decide (p < s.size) = true := decide_eq_true hlt
      by_cases hdg : P s[p] = true
      · have hjt : j < t.length := (Hin.out j hj).2 ⟨s[p], by rw [← HP.out]; exact Hg.out, hdg⟩
        go_wp2
        go_quiet ((go_at_call 114; exact Calls.quiet_of_same (HH.out _ _)))
        go_wp2_with fail
        have hown' : (wr.drewN nq).ownsRow w.heap.size 5 1 u5 j (Lib.byteCells (t.take j)) := hown
        have hbne := hvb2 u5 hvb
        go_region_held3 (fun w' => w'.cell? ⟨b, 0, none⟩ = some (.string s) ∧ w'.cell? ⟨b, 1, none⟩ = some (.int .i64 (p : Int)))
          (first
            | go_keep
            | (go_split_ands
               refine ⟨?_, ?_⟩
               · (rw [hgrow.cell_far _ (by simp; omega) hbne]; assumption)
               · (rw [hgrow.cell_far _ (by simp; omega) hbne]; assumption)))
          ((refine step_append_lies _ (by rfl) _ _ _ (by rfl) w.heap.size 5 i0 _ 1 1 Tryz.underlying104 hinf hz0 hz1 hz2 rfl (by omega) u5 j (Lib.byteCells (t.take j)) (by rfl) ((hown'.alloc _).drew)
              ⟨wr.heap.size, 0, none⟩ 1 1 [.int .u8 (s[p].toNat : Int)] (by rfl) (by rfl) (World.news_of_block (cs := #[.int .u8 (s[p].toNat : Int)]) (t := 5) (fr := (0, 0)) (heap_alloc_new (wr.drewN nq) _)) (by simp [Value.oneCell'])
              (by omega) (by unfold maxLen; omega) (by omega) (by simp; omega) (wr.heap.size + 1) (by simp) ?_; intro gg cap w1 hown1 hgrow hat hltt))
        have hr1 : Rd w1 b X T s p bad := Rd.grown ((HR2.out.drewN (nq + 1)).alloc _) hgrow hbne
        have hg1 : w.grownBy w1 (some b) := grown_new (grown_trans (grown_trans HG2.out (grown_drewN _ (nq + 1) _)) (World.grownBy_alloc _ _ _)) hgrow hvb
        have d0 := hr1.c0
        have d1 := hr1.c1
        have e1 := hr1.f1
        have HR3 : Hid (Rd w1 b X T s p bad) := hr1
        have HG3 : Hid (w.grownBy w1 (some b)) := hg1
        have HO3 : Hid (w1.ownsRow w.heap.size 5 1 (.slice (some ⟨gg, 0, none⟩) (j + 1) cap) (j + 1) (Lib.byteCells (t.take (j + 1)))) := by
          rw [Htk.out j s[p] hjt (by rw [← HP.out]; exact Hg.out)]
          show World.ownsRow _ _ _ _ _ _ _
          simpa [Lib.byteCells] using hown1
        clear hown' hown hown1 hr1 hg1 hgrow hbne c0 c1 c2 f1 f2 hat hvb hvb2 hinf hz0 hz1 hz2
        go_wp2
        go_roundw
        case rel =>
          refine ⟨j + 1, by omega, ownsRow_setCell_below HO3.out (by simpa using hblt) _, ?_, ?_⟩
          · have e : k + (j + 1) = p + 1 := by have := HP.out; omega
            rw [e]
            exact HR3.out.set1 (p + 1)
          · exact grown_trans HG3.out (grown_set _ _ _ _)
        case measure => exact lt_meas HR2.out (HR3.out.set1 (p + 1)) (by omega) hlt
      · have hdf : P s[p] = false := by simpa using hdg
        have hjt : ¬ j < t.length := fun h => by
          obtain ⟨c, h1, h2⟩ := (Hin.out j hj).1 h
          rw [← HP.out, Hg.out] at h1
          cases h1
          exact hdg h2
        obtain rfl : j = t.length := by omega
        clear hjt hdg Hg
        go_wp2
        go_quiet ((go_at_call 114; exact Calls.quiet_of_same (HH.out _ _)))
        rw [List.take_length] at hown
        rcases hown.2 with ⟨rfl, h0⟩ | ⟨g, cap, cur, rfl, -, -, -, -, -, -⟩
        · have hcv : ∀ wx, (convert 104 9 (.slice none 0 0)).run Tryz.prog wx = .ok (.string ⟨#[]⟩) wx := fun wx => by rw [run_convert_bytes_string wx 104 9 5 none 0 0 Tryz.underlying104 Tryz.underlying5 Tryz.underlying9]; rfl
          obtain rfl : t = [] := List.eq_nil_of_length_eq_zero h0
          go_wp2
          go_ret
          exact run_fin HP.out HR2.out HG2.out
        · have hcv1 := run_convert_bytes_back (P := Tryz.prog) (wr.drewN nq) 104 9 5 ⟨g, 0, none⟩ cap t Tryz.underlying104 Tryz.underlying5 Tryz.underlying9 (fun j hj => hown.cells (g := g) rfl j _ (by simp [Lib.byteCells, hj]))
          go_wp2
          go_ret
          exact run_fin HP.out HR2.out HG2.out
    · obtain rfl : j = t.length := by have := HP.out; omega
      have hd : decide (p < s.size) = false := decide_eq_false hlt
      go_wp2
      go_quiet ((go_at_call 114; exact Calls.quiet_of_same (HH.out _ _)))
      rw [List.take_length] at hown
      rcases hown.2 with ⟨rfl, h0⟩ | ⟨g, cap, cur, rfl, -, -, -, -, -, -⟩
      · have hcv : ∀ wx, (convert 104 9 (.slice none 0 0)).run Tryz.prog wx = .ok (.string ⟨#[]⟩) wx := fun wx => by rw [run_convert_bytes_string wx 104 9 5 none 0 0 Tryz.underlying104 Tryz.underlying5 Tryz.underlying9]; rfl
        obtain rfl : t = [] := List.eq_nil_of_length_eq_zero h0
        go_wp2
        go_ret
        exact run_fin HP.out HR2.out HG2.out
      · have hcv1 := run_convert_bytes_back (P := Tryz.prog) (wr.drewN nq) 104 9 5 ⟨g, 0, none⟩ cap t Tryz.underlying104 Tryz.underlying5 Tryz.underlying9 (fun j hj => hown.cells (g := g) rfl j _ (by simp [Lib.byteCells, hj]))
        go_wp2
        go_ret
        exact run_fin HP.out HR2.out HG2.out


theorem run_low (b : Nat) (X : List Value) (T : Nat) (s : ByteArray) (k : Nat) (bad : Bool) (w : World) (hs : s.size ≤ 1048576) (hk : k ≤ s.size) (hr : Rd w b X T s k bad) :
    Calls Tryz.prog 80 #[.pointer (some ⟨b, 0, none⟩), .int .i64 0] w fun e w' => RunPost b X T s k bad (run Mir.isL s.data.toList k) w e w' := run_any false b X T s k bad w hs hk hr
theorem run_said (b : Nat) (X : List Value) (T : Nat) (s : ByteArray) (k : Nat) (bad : Bool) (w : World) (hs : s.size ≤ 1048576) (hk : k ≤ s.size) (hr : Rd w b X T s k bad) :
    Calls Tryz.prog 80 #[.pointer (some ⟨b, 0, none⟩), .int .i64 1] w fun e w' => RunPost b X T s k bad (run Mir.isS s.data.toList k) w e w' := run_any true b X T s k bad w hs hk hr

theorem new_any (s : ByteArray) (w : World) :
    Calls Tryz.prog 69 #[.string s] w fun e w' => e = .returned (.agg #[.string s, .int .i64 0, .bool false]) ∧ Mod No w w' := by
  go_enter Tryz.func69, Tryz.ntmps69
  go_wp2
  refine bodyPost_ret (v := .agg #[.string s, .int .i64 0, .bool false]) (by simp [results, Tryz.results69, go_sem]) rfl ⟨rfl, ?_⟩
  exact (Mod.refl _ _).alloc _
end Go.Proofs.YtmbapmbpnnaanabGreatDoor
namespace Go.Proofs.YtmbapmbpnnaanabGreatDoor
open Go.RowKit
attribute [local go_sem ↓] Go.wp_at_zero Go.wp_at_succ

/-- A place in a slice: which letters it takes, what comes behind. -/
def PlE : Enc Mir.Place := ⟨272, 5, fun q => [.bool (q.t.getD 0 false), .bool (q.t.getD 1 false), .bool (q.t.getD 2 false), .bool (q.t.getD 3 false), .int .u32 (q.n : Int)], fun _ => rfl⟩
def pieceV (x : Mir.Piece) : Value := .agg #[.bool x.e, .int .u32 (x.f : Int), .int .u32 (x.l : Int)]
def POk (x : Mir.Piece) : Prop := x.f < B32 ∧ x.l < B32
def PsOk (ps : List Mir.Place) : Prop := ps.length ≤ 32 ∧ ∀ q ∈ ps, q.n < B32

/-! lead, plainly -/
theorem lead_get (fr to : Nat) : ∀ (ps : List Mir.Place) (k i : Nat), (Mir.leadM ps fr to k)[i]? = (ps[i]?).map fun q => if Mir.has fr (k + i) then { q with n := q.n ||| to } else q
  | [], _, _ => by simp [Mir.leadM]
  | p :: ps, k, 0 => by simp [Mir.leadM]
  | p :: ps, k, i + 1 => by
    simp only [Mir.leadM, List.getElem?_cons_succ]
    rw [lead_get fr to ps (k + 1) i, show k + 1 + i = k + (i + 1) by omega]
theorem lead_len (fr to : Nat) : ∀ (ps : List Mir.Place) (k : Nat), (Mir.leadM ps fr to k).length = ps.length
  | [], _ => rfl
  | p :: ps, k => by simp [Mir.leadM, lead_len fr to ps (k + 1)]
theorem lead_ok {fr to : Nat} {ps : List Mir.Place} (h : PsOk ps) (ht : to < B32) : PsOk (Mir.leadM ps fr to 0) := by
  refine ⟨by rw [lead_len]; exact h.1, fun q hq => ?_⟩
  obtain ⟨i, hi⟩ := List.mem_iff_getElem?.1 hq
  rw [lead_get] at hi
  cases hp : ps[i]? with
  | none => rw [hp] at hi; cases hi
  | some p =>
    rw [hp] at hi
    simp only [Option.map_some, Option.some.injEq] at hi
    have hpo := h.2 p (List.mem_of_getElem? hp)
    subst hi
    split
    · exact or_lt32 hpo ht
    · exact hpo
/-- Half way: the first i are led. -/
def mix (L ps : List Mir.Place) (i : Nat) : List Mir.Place := L.take i ++ ps.drop i
theorem mix_get {L ps : List Mir.Place} (hl : L.length = ps.length) {i : Nat} (hi : i < ps.length) : (mix L ps i)[i]? = ps[i]? := by
  unfold mix
  rw [List.getElem?_append_right (by simp; omega), List.length_take, List.getElem?_drop]
  congr 1; omega
theorem mix_len {L ps : List Mir.Place} (hl : L.length = ps.length) (i : Nat) (hi : i ≤ ps.length) : (mix L ps i).length = ps.length := by unfold mix; simp; omega
theorem mix_set {L ps : List Mir.Place} (hl : L.length = ps.length) {i : Nat} (hi : i < ps.length) {x : Mir.Place} (hx : L[i]? = some x) : (mix L ps i).set i x = mix L ps (i + 1) := by
  unfold mix
  have e : i - (L.take i).length = 0 := by simp; omega
  rw [List.set_append_right _ _ (by simp; omega), List.take_add_one, hx, e, List.drop_eq_getElem_cons hi, List.set_cons_zero]
  simp
theorem mix_same {L ps : List Mir.Place} (hl : L.length = ps.length) {i : Nat} (hi : i < ps.length) (hx : L[i]? = ps[i]?) : mix L ps i = mix L ps (i + 1) := by
  obtain ⟨x, h⟩ : ∃ x, L[i]? = some x := ⟨L[i], List.getElem?_eq_getElem (by omega)⟩
  rw [← mix_set hl hi h]
  refine (List.ext_getElem? fun j => ?_)
  rw [List.getElem?_set]
  split
  · rename_i e
    subst e
    rw [mix_get hl hi, ← hx, h]
    split
    · rfl
    · rename_i h2; exact absurd (by rw [mix_len hl i (by omega)]; exact hi) h2
  · rfl

/-- What a call that works on the net may change: the block that it lies in, the places' block. -/
def Pt (b : Nat) (v : Value) : Nat → Prop := fun k => k = b ∨ v.ownBlock = some k

set_option maxHeartbeats 1000000 in
set_option maxRecDepth 100000 in
theorem lead_any (b o : Nat) (cs : List Value) (T : Nat) (vp : Value) (ps : List Mir.Place) (fr to : Nat) (w : World) (hb : Blk w b cs T) (hv : cs[o]? = some vp) (hrow : Row PlE w vp ps) (hne : vp.ownBlock ≠ some b) (hps : PsOk ps) (hfr : fr < B32) (hto : to < B32) :
    Calls Tryz.prog 120 #[.pointer (some ⟨b, o, none⟩), .int .u32 (fr : Int), .int .u32 (to : Int)] w fun e w' => e = .returned (.tuple #[]) ∧ Row PlE w' vp (Mir.leadM ps fr to 0) ∧ Mod (fun k => vp.ownBlock = some k) w w' := by
  obtain ⟨a, cap, rfl, ha, hcap, -⟩ := hrow.any
  have hl := lead_len fr to ps 0
  have hget := lead_get fr to ps 0
  obtain ⟨L, hL⟩ : ∃ L, L = Mir.leadM ps fr to 0 := ⟨_, rfl⟩
  rw [← hL] at hl hget ⊢
  obtain ⟨n, hn⟩ : ∃ n, n = ps.length := ⟨_, rfl⟩
  have hn32 : n ≤ 32 := by rw [hn]; exact hps.1
  rw [← hn] at hrow hcap hne hv ⊢
  have hhas := fun p (hp : p < 32) w => has_place fr p hfr hp w
  have HHAS : Hid _ := hhas
  have HL : Hid (L.length = ps.length) := hl
  have HGET : Hid _ := hget
  have HN : Hid (n = ps.length) := hn
  have HPS : Hid _ := hps
  have HROW : Hid _ := hrow
  have HB : Hid (Blk w b cs T) := hb
  have HV : Hid _ := hv
  have c0 := hb.cell o hv
  have HNE : Hid _ := hne
  clear hL hget hl hn hps hhas hrow hb hv hne
  go_enter Tryz.func120, Tryz.ntmps120
  go_wp2
  go_loopw [12] (fun ii wr => ∃ (i : Nat), i ≤ n ∧ ii = .int .i64 (i : Int) ∧ Row PlE wr (.slice a n cap) (mix L ps i) ∧ Mod (fun k => (Value.slice a n cap).ownBlock = some k) w wr) (fun ii _ => n - (intOf ii).toNat)
  case atStart => exact ⟨0, by omega, rfl, by have := HROW.out; unfold mix; rw [List.take_zero, List.drop_zero, List.nil_append]; exact this, Mod.refl _ _⟩
  case round =>
    obtain ⟨i, hi, rfl, hr, hm⟩ := hrel
    have hbk : Blk wr b cs T := HB.out.mod hm (fun h => HNE.out h)
    have c0 := hbk.cell o HV.out
    by_cases hlt : i < n
    · have hlt2 : i < ps.length := by rw [← HN.out]; exact hlt
      obtain ⟨g, rfl⟩ : ∃ g, a = some ⟨g, 0, none⟩ := by
        rcases ha with rfl | ⟨g, rfl, _⟩
        · rcases hr.2 with ⟨h, h2⟩ | ⟨g, cap', cur, h, _⟩
          · exfalso; rw [mix_len HL.out i (by omega)] at h2; omega
          · cases h
        · exact ⟨g, rfl⟩
      obtain ⟨q, hq⟩ : ∃ q, ps[i]? = some q := ⟨ps[i], List.getElem?_eq_getElem hlt2⟩
      have hmq : (mix L ps i)[i]? = some q := by rw [mix_get HL.out hlt2]; exact hq
      have c4 : wr.cell? ⟨g, i * 5 + 4, none⟩ = some (.int .u32 (q.n : Int)) := hr.cell i 4 hmq rfl
      have f4 : wr.frozen? ⟨g, i * 5 + 4, none⟩ = false := hr.free _
      have hqn : q.n < B32 := HPS.out.2 q (List.mem_of_getElem? hq)
      have hh := HHAS.out i (by omega)
      have hLi := HGET.out i
      rw [hq, Option.map_some, Nat.zero_add] at hLi
      have hne2 : ¬ g = b := fun e => HNE.out (by rw [e]; rfl)
      have hilt : (i : Int) < (n : Int) := by omega
      cases hhv : Mir.has fr i with
      | true =>
        rw [hhv] at hh
        rw [hhv, if_pos rfl] at hLi
        have hor := u32_or_nat q.n to hqn hto
        obtain ⟨x, hx⟩ : ∃ x, x = q.n ||| to := ⟨_, rfl⟩
        rw [← hx] at hor hLi
        have HR2 : Hid (Row PlE (wr.setCell ⟨g, i * 5 + 4, none⟩ (.int .u32 (x : Int))) (.slice (some ⟨g, 0, none⟩) n cap) (mix L ps (i + 1))) := by
          show Row PlE _ _ _
          rw [← mix_set HL.out hlt2 hLi]
          exact hr.put i 4 hmq (by decide) rfl
        have HM : Hid _ := hm
        clear hx hLi hhv hmq hq hr hm
        go_wp2_with fail
        refine (hh _).mono ?_
        rintro e w1 ⟨rfl, rfl⟩
        clear hh
        go_wp2
        go_roundw
        case rel => exact ⟨i + 1, by omega, by go_num, HR2.out, HM.out.setCell (a := ⟨g, i * 5 + 4, none⟩) (fun _ => rfl) _⟩
        case measure => simp [intOf]; omega
      | false =>
        rw [hhv] at hh
        rw [hhv, if_neg (by simp)] at hLi
        have HR2 : Hid (Row PlE wr (.slice (some ⟨g, 0, none⟩) n cap) (mix L ps (i + 1))) := by
          show Row PlE _ _ _
          rw [← mix_same HL.out hlt2 (by rw [hLi, hq])]
          exact hr
        have HM : Hid _ := hm
        clear hLi hhv hmq hq hr hm
        go_wp2_with fail
        refine (hh _).mono ?_
        rintro e w1 ⟨rfl, rfl⟩
        clear hh
        go_wp2
        go_roundw
        case rel => exact ⟨i + 1, by omega, by go_num, HR2.out, HM.out⟩
        case measure => simp [intOf]; omega
    · obtain rfl : i = n := by omega
      have HR2 : Hid (Row PlE wr (.slice a i cap) L) := by
        have e : mix L ps i = L := by
          unfold mix
          rw [List.take_of_length_le (by rw [HL.out, ← HN.out]; omega), List.drop_of_length_le (by rw [← HN.out]; omega), List.append_nil]
        rw [e] at hr
        exact hr
      clear hr
      go_wp2
      go_end0
      exact ⟨rfl, HR2.out, hm⟩
end Go.Proofs.YtmbapmbpnnaanabGreatDoor
