/- Plain lists and numbers: nothing of the dump. -/
namespace Go.Proofs.YtmbapmbpnnaanabDoor

def digB (c : UInt8) : Bool := decide (48 ≤ c.toNat ∧ c.toNat ≤ 57)
def letB (c : UInt8) : Bool := decide ((97 ≤ c.toNat ∧ c.toNat ≤ 100) ∨ (65 ≤ c.toNat ∧ c.toNat ≤ 68))

theorem tw_iff (p : UInt8 → Bool) : ∀ (l : List UInt8) (j : Nat), j ≤ (l.takeWhile p).length → (j < (l.takeWhile p).length ↔ ∃ c, l[j]? = some c ∧ p c = true)
  | [], j, h => by simp
  | a :: l, j, h => by
    by_cases ha : p a = true
    · rw [List.takeWhile_cons_of_pos ha] at h ⊢
      match j with
      | 0 => simp [ha]
      | j + 1 =>
        have := tw_iff p l j (by simpa using h)
        simpa using this
    · rw [List.takeWhile_cons_of_neg ha] at h ⊢
      have : j = 0 := by simpa using h
      subst this
      simp [ha]

theorem tw_get (p : UInt8 → Bool) : ∀ (l : List UInt8) (j : Nat), j < (l.takeWhile p).length → (l.takeWhile p)[j]? = l[j]?
  | [], j, h => by simp at h
  | a :: l, j, h => by
    by_cases ha : p a = true
    · rw [List.takeWhile_cons_of_pos ha] at h ⊢
      match j with
      | 0 => simp
      | j + 1 => simpa using tw_get p l j (by simpa using h)
    · rw [List.takeWhile_cons_of_neg ha] at h
      simp at h

theorem tw_le (p : UInt8 → Bool) (l : List UInt8) : (l.takeWhile p).length ≤ l.length := (List.takeWhile_sublist p).length_le

theorem tw_append (p : UInt8 → Bool) (l : List UInt8) : l.takeWhile p ++ l.drop (l.takeWhile p).length = l := by
  induction l with
  | nil => simp
  | cons a l ih =>
    by_cases ha : p a = true
    · rw [List.takeWhile_cons_of_pos ha]; simp [ih]
    · rw [List.takeWhile_cons_of_neg ha]; simp

/-- The run of bytes from k on. -/
def run (p : UInt8 → Bool) (l : List UInt8) (k : Nat) : List UInt8 := (l.drop k).takeWhile p

theorem run_iff (p : UInt8 → Bool) (l : List UInt8) (k j : Nat) (h : j ≤ (run p l k).length) : (j < (run p l k).length ↔ ∃ c, l[k + j]? = some c ∧ p c = true) := by
  have := tw_iff p (l.drop k) j h
  simpa [run] using this
theorem run_get (p : UInt8 → Bool) (l : List UInt8) (k j : Nat) (h : j < (run p l k).length) : (run p l k)[j]? = l[k + j]? := by
  have := tw_get p (l.drop k) j h
  simpa [run] using this
theorem run_le (p : UInt8 → Bool) (l : List UInt8) (k : Nat) (hk : k ≤ l.length) : k + (run p l k).length ≤ l.length := by
  have := tw_le p (l.drop k)
  simp at this
  simp only [run]
  omega
theorem run_take (p : UInt8 → Bool) (l : List UInt8) (k j : Nat) (c : UInt8) (h : j < (run p l k).length) (hc : l[k + j]? = some c) : (run p l k).take (j + 1) = (run p l k).take j ++ [c] := by
  have hg := run_get p l k j h
  rw [List.take_add_one, hg, hc]
  rfl
theorem run_drop (p : UInt8 → Bool) (l : List UInt8) (k : Nat) : l.drop k = run p l k ++ l.drop (k + (run p l k).length) := by
  have := tw_append p (l.drop k)
  rw [List.drop_drop] at this
  exact this.symm

/-- The number: it grows on up to 200. -/
def numStep (n : Nat) (c : UInt8) : Nat := if n ≤ 200 then n * 10 + (c.toNat - 48) else n
def numM (t : List UInt8) : Nat := t.foldl numStep 0
theorem numM_snoc (t : List UInt8) (c : UInt8) : numM (t ++ [c]) = numStep (numM t) c := by simp [numM]
theorem foldl_le (t : List UInt8) : ∀ n, n ≤ 2300 → t.foldl numStep n ≤ 2300 := by
  induction t with
  | nil => intro n h; simpa using h
  | cons c t ih =>
    intro n h
    simp only [List.foldl_cons]
    refine ih _ ?_
    unfold numStep
    have := c.toNat_lt
    split <;> omega
theorem numM_le (t : List UInt8) : numM t ≤ 2300 := foldl_le t 0 (by omega)
def numBad (t : List UInt8) : Bool := t.isEmpty || (decide (1 < t.length) && t.head? == some 48)
theorem run_all (p : UInt8 → Bool) (l : List UInt8) (k : Nat) : ∀ c ∈ run p l k, p c = true := fun c h => by
  unfold run at h
  generalize l.drop k = m at h
  induction m with
  | nil => simp at h
  | cons a m ih =>
    by_cases ha : p a = true
    · rw [List.takeWhile_cons_of_pos ha] at h
      rcases List.mem_cons.1 h with rfl | h2
      · exact ha
      · exact ih h2
    · rw [List.takeWhile_cons_of_neg ha] at h
      cases h
theorem num_gt (u : List UInt8) : ∀ n, 200 < n → u.foldl numStep n = n := by
  induction u with
  | nil => intro n _; rfl
  | cons c u ih =>
    intro n h
    have e : numStep n c = n := by unfold numStep; rw [if_neg (by omega)]
    rw [List.foldl_cons, e]
    exact ih n h
/-- Beyond 200 the number grows no more. -/
theorem num_stop (t : List UInt8) (i : Nat) (h : 200 < numM (t.take i)) : numM t = numM (t.take i) := by
  have e : numM t = (t.drop i).foldl numStep (numM (t.take i)) := by
    unfold numM
    rw [← List.foldl_append, List.take_append_drop]
  rw [e]
  exact num_gt _ _ h
end Go.Proofs.YtmbapmbpnnaanabDoor
