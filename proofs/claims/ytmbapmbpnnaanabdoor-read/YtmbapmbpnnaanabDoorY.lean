import Derived.Test.YtmbapmbpnnaanabDoorX
namespace Go.Proofs.YtmbapmbpnnaanabDoor

def val (n : Nat) (t : List UInt8) : Nat := t.foldl (fun n c => n * 10 + (c.toNat - 48)) n
theorem num_val : ∀ (t : List UInt8) (n : Nat), t.foldl numStep n ≤ 200 → n ≤ 200 ∧ t.foldl numStep n = val n t
  | [], n, h => ⟨h, rfl⟩
  | c :: t, n, h => by
    have ih := num_val t (numStep n c) h
    have hn : n ≤ 200 := by
      rcases Nat.lt_or_ge 200 n with h2 | h2
      · have := ih.1
        unfold numStep at this
        rw [if_neg (by omega)] at this
        omega
      · exact h2
    refine ⟨hn, ?_⟩
    have e : numStep n c = n * 10 + (c.toNat - 48) := by unfold numStep; rw [if_pos hn]
    rw [List.foldl_cons, ih.2, e]
    rfl
theorem val_pos : ∀ (t : List UInt8) (n : Nat), 1 ≤ n → 1 ≤ val n t
  | [], n, h => h
  | c :: t, n, h => val_pos t (n * 10 + (c.toNat - 48)) (by omega)
theorem val_snoc (n : Nat) (u : List UInt8) (c : UInt8) : val n (u ++ [c]) = val n u * 10 + (c.toNat - 48) := by simp [val]

theorem dig_of (c : UInt8) (h : digB c = true) : 48 ≤ c.toNat ∧ c.toNat ≤ 57 := of_decide_eq_true h
theorem of_dig (c : UInt8) (h : digB c = true) : UInt8.ofNat (48 + (c.toNat - 48)) = c := by
  have := dig_of c h
  rw [show 48 + (c.toNat - 48) = c.toNat by omega]
  simp

theorem dec_val (k : Nat) : ∀ (t : List UInt8), t.length = k + 1 → (∀ c ∈ t, digB c = true) → (1 < t.length → t.head? ≠ some 48) → Lib.decDigits (val 0 t) = t := by
  induction k with
  | zero =>
    intro t hl hd _
    obtain ⟨c, rfl⟩ := len1 hl
    have hc := hd c (by simp)
    have := dig_of c hc
    rw [show val 0 [c] = c.toNat - 48 by simp [val], Lib.decDigits_one (by omega), of_dig c hc]
  | succ k ih =>
    intro t hl hd hh
    have hne : t ≠ [] := fun e => by rw [e] at hl; simp at hl
    obtain ⟨u, c, rfl⟩ : ∃ u c, t = u ++ [c] := ⟨t.dropLast, t.getLast hne, (List.dropLast_concat_getLast hne).symm⟩
    have hu : u.length = k + 1 := by simp at hl; omega
    have hune : u ≠ [] := fun e => by rw [e] at hu; simp at hu
    have hhead : (u ++ [c]).head? = u.head? := by
      cases u with
      | nil => exact absurd rfl hune
      | cons a r => rfl
    have h48 : u.head? ≠ some 48 := by rw [← hhead]; exact hh (by simp; omega)
    have hdu : ∀ d ∈ u, digB d = true := fun d h => hd d (by simp [h])
    have hpos : 1 ≤ val 0 u := by
      cases u with
      | nil => exact absurd rfl hune
      | cons a r =>
        have ha := dig_of a (hdu a (by simp))
        have : a.toNat ≠ 48 := fun e => h48 (by
          show some a = some 48
          exact congrArg some (UInt8.toNat_inj.1 (by simpa using e)))
        exact val_pos r (0 * 10 + (a.toNat - 48)) (by omega)
    have hc := hd c (by simp)
    have hcd := dig_of c hc
    rw [val_snoc]
    have e := ih u hu hdu (fun _ => h48)
    rw [Lib.decDigits, dif_neg (by omega), show (val 0 u * 10 + (c.toNat - 48)) / 10 = val 0 u by omega, show (val 0 u * 10 + (c.toNat - 48)) % 10 = c.toNat - 48 by omega, e, of_dig c hc]

theorem num_ok (l : List UInt8) (k : Nat) (h1 : numBad (run digB l k) = false) (h2 : numM (run digB l k) ≤ 200) : l.drop k = Lib.decDigits (numM (run digB l k)) ++ l.drop (k + (run digB l k).length) := by
  have hv := (num_val (run digB l k) 0 h2).2
  unfold numBad at h1
  rw [Bool.or_eq_false_iff] at h1
  obtain ⟨hne, hz⟩ := h1
  have hlen : 0 < (run digB l k).length := by
    cases hr : run digB l k with
    | nil => rw [hr] at hne; cases hne
    | cons a r => simp
  have e : Lib.decDigits (numM (run digB l k)) = run digB l k := by
    unfold numM
    rw [hv]
    refine dec_val ((run digB l k).length - 1) _ (by omega) (run_all digB l k) (fun h => ?_)
    intro hh
    rw [hh] at hz
    simp [h] at hz
  rw [e]
  exact run_drop digB l k

theorem drop_cons {l : List UInt8} {k : Nat} {c : UInt8} (h : l[k]? = some c) : l.drop k = c :: l.drop (k + 1) := by
  have hlt : k < l.length := by
    rcases Nat.lt_or_ge k l.length with h2 | h2
    · exact h2
    · rw [List.getElem?_eq_none h2] at h; cases h
  rw [List.drop_eq_getElem_cons hlt]
  rw [List.getElem?_eq_getElem hlt] at h
  rw [Option.some.inj h]

theorem word_ok (s : ByteArray) (k : Nat) (bad : Bool) (h : (wordM s k bad).2.2 = false) : s.data.toList.drop k = wtext (wordM s k bad).1 ++ s.data.toList.drop (wordM s k bad).2.1 := by
  unfold wordM at h ⊢
  split at h
  · rename_i hc
    rw [if_pos hc]
    unfold seesB at hc
    rw [Bool.and_eq_true] at hc
    exact drop_cons (of_decide_eq_true hc.2)
  · rename_i hc
    rw [if_neg hc]
    have hne : run letB s.data.toList k ≠ [] := fun e => by rw [e] at h; cases h
    show s.data.toList.drop k = wtext (run letB s.data.toList k) ++ s.data.toList.drop (k + (run letB s.data.toList k).length)
    unfold wtext
    rw [if_neg hne]
    exact run_drop letB s.data.toList k

def accG (f : List UInt8) (sd : List (List UInt8)) (nx : List Nat) : List UInt8 := wtext f ++ (List.zipWith ptext sd nx).flatten

theorem lparts_ok (s : ByteArray) (k : Nat) : ∀ n, (lparts s k false n).2.2 = false → (∀ t ∈ (lparts s k false n).1.nx, t ≤ 200) →
    s.data.toList.drop k = accG (lparts s k false n).1.fin (lparts s k false n).1.sd (lparts s k false n).1.nx ++ s.data.toList.drop (lparts s k false n).2.1
  | 0, h, _ => by
    have h2 : (wordM s k false).2.2 = false := by simpa [lparts, lfirst] using h
    have := word_ok s k false h2
    simpa [lparts, lfirst, accG] using this
  | n + 1, h, hnx => by
    have hl := lparts_len s k false n
    obtain ⟨x, hx⟩ : ∃ x, x = lparts s k false n := ⟨_, rfl⟩
    have e : lparts s k false (n + 1) = lstep s x := by rw [hx]; rfl
    rw [e] at h hnx ⊢
    rw [← hx] at hl
    obtain ⟨⟨f, sd, nx⟩, k0, bd⟩ := x
    simp only [lstep] at h hnx ⊢
    rw [Bool.or_eq_false_iff] at h
    obtain ⟨h1, h2⟩ := h
    obtain ⟨e3, g3, b3⟩ := signM_ok s 58 _ _ h1
    rw [Bool.or_eq_false_iff] at b3
    obtain ⟨b1, b2⟩ := b3
    obtain ⟨e1, g1, b0⟩ := signM_ok s 32 _ _ b1
    subst b0
    have ih := lparts_ok s k n (by rw [← hx]) (by rw [← hx]; intro t ht; exact hnx t (by simp [ht]))
    rw [← hx] at ih
    simp only at ih
    have hn := num_ok s.data.toList _ h2 (hnx _ (by simp))
    have hw := word_ok s _ _ b2
    rw [ih]
    rw [drop_cons g1, ← e1, hw, drop_cons g3, ← e3, hn]
    unfold accG
    rw [List.zipWith_append (by rw [hl.1, hl.2])]
    simp [ptext, List.append_assoc]

theorem nexts_four {q : St} (h : q.nx.length = 4) : q.nexts = q.nx := by
  obtain ⟨f, sd, nx⟩ := q
  match nx, h with
  | [a, b, c, d], _ => rfl
theorem line_ok (s : ByteArray) (k : Nat) (h : (lineM s k false).2.2 = false) (hnx : ∀ t ∈ (lineM s k false).1.nexts, t ≤ 200) : s.data.toList.drop k = lineText (lineM s k false).1 ++ s.data.toList.drop (lineM s k false).2.1 := by
  have hl := lparts_len s k false 4
  have e : (lineM s k false).1 = (lparts s k false 4).1 := rfl
  rw [e, nexts_four hl.2] at hnx
  obtain ⟨e1, g1, b1⟩ := signM_ok s 10 (lparts s k false 4).2.1 (lparts s k false 4).2.2 h
  have hp := lparts_ok s k 4 b1 hnx
  rw [hp, drop_cons g1]
  have e2 : (lineM s k false).2.1 = (lparts s k false 4).2.1 + 1 := e1
  rw [e2, e]
  have e3 : lineText (lparts s k false 4).1 = accG (lparts s k false 4).1.fin (lparts s k false 4).1.sd (lparts s k false 4).1.nx ++ [10] := by
    generalize lparts s k false 4 = x at hl
    obtain ⟨⟨f, sd, nx⟩, _, _⟩ := x
    simp only at hl
    match sd, nx, hl with
    | [a, b, c, d], [i, j, m, n], _ => simp [lineText, accT, accG, List.append_assoc]
  rw [e3]
  simp

theorem read_ok (s : ByteArray) : ∀ (f k : Nat) (acc sts : List St), readM s f k acc = some sts → ∃ rest, sts = acc ++ rest ∧ ((∀ q ∈ rest, ∀ t ∈ q.nexts, t ≤ 200) → s.data.toList.drop k = textM rest)
  | 0, k, acc, sts, h => by
    simp only [readM] at h
    split at h
    · cases h
    · cases h
      exact ⟨[], by simp, fun _ => by rw [List.drop_eq_nil_of_le (by simpa using Nat.le_of_not_lt ‹_›)]; rfl⟩
  | f + 1, k, acc, sts, h => by
    simp only [readM] at h
    split at h
    · split at h
      · cases h
      · split at h
        · cases h
        · rename_i hb
          obtain ⟨rest, e, hr⟩ := read_ok s f _ _ _ h
          refine ⟨(lineM s k false).1 :: rest, by rw [e]; simp, fun hq => ?_⟩
          have h1 := line_ok s k (by simpa using hb) (hq _ (by simp))
          rw [h1, hr (fun q hm => hq q (by simp [hm]))]
          rfl
    · cases h
      exact ⟨[], by simp, fun _ => by rw [List.drop_eq_nil_of_le (by simpa using Nat.le_of_not_lt ‹_›)]; rfl⟩

/-- WHAT WAS READ IS WRITTEN SO. -/
theorem round_trip (s : ByteArray) (sts : List St) (h : readM s s.size 0 [] = some sts) (hw : Within sts) (hl : sts.length ≤ 200) : textM sts = s.data.toList := by
  obtain ⟨rest, e, hr⟩ := read_ok s s.size 0 [] sts h
  simp at e
  subst e
  have := hr (fun q hq t ht => by have := hw q hq t ht; omega)
  simpa using this.symm
end Go.Proofs.YtmbapmbpnnaanabDoor
