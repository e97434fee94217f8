/- Classes of states, plainly. -/
namespace Go.Proofs.YtmbapmbpnnaanabDoor

def newB (cl : List Nat) (i : Nat) : Bool := !((cl.take i).contains (cl.getD i 0))
def firsts (cl : List Nat) (k : Nat) : Nat := ((List.range k).filter (newB cl)).length
theorem firsts_succ (cl : List Nat) (k : Nat) : firsts cl (k + 1) = firsts cl k + if newB cl k = true then 1 else 0 := by
  unfold firsts
  rw [List.range_succ, List.filter_append, List.length_append]
  congr 1
  by_cases h : newB cl k = true <;> simp [h]
theorem newB_congr (a b : List Nat) (i : Nat) (h : a.take (i + 1) = b.take (i + 1)) : newB a i = newB b i := by
  have h1 : a.take i = b.take i := by
    have := congrArg (List.take i) h
    rwa [List.take_take, List.take_take, Nat.min_eq_left (Nat.le_succ i)] at this
  have h2 : a.getD i 0 = b.getD i 0 := by
    have := congrArg (fun l => l[i]?) h
    simp only [List.getElem?_take] at this
    rw [if_pos (Nat.lt_succ_self i), if_pos (Nat.lt_succ_self i)] at this
    rw [List.getD_eq_getElem?_getD, List.getD_eq_getElem?_getD, this]
  unfold newB
  rw [h1, h2]
theorem take_set (cl : List Nat) (i k v : Nat) (h : k ≤ i) : (cl.set i v).take k = cl.take k := by
  rw [List.take_set_of_le h]
theorem firsts_set (cl : List Nat) (i v : Nat) : ∀ k, k ≤ i → firsts (cl.set i v) k = firsts cl k
  | 0, _ => rfl
  | k + 1, h => by
    rw [firsts_succ, firsts_succ, firsts_set cl i v k (by omega), newB_congr _ _ _ (take_set cl i (k + 1) v h)]
theorem getD_set_ne (cl : List Nat) (i k v : Nat) (h : i ≠ k) : (cl.set i v).getD k 0 = cl.getD k 0 := by
  simp only [List.getD_eq_getElem?_getD, List.getElem?_set]; rw [if_neg h]
theorem getD_set_eq (cl : List Nat) (i v : Nat) (h : i < cl.length) : (cl.set i v).getD i 0 = v := by
  simp only [List.getD_eq_getElem?_getD, List.getElem?_set]; rw [if_pos trivial, if_pos h]; rfl
theorem mem_take_getD (cl : List Nat) (i : Nat) (x : Nat) (h : x ∈ cl.take i) : ∃ k, k < i ∧ cl.getD k 0 = x := by
  obtain ⟨k, hk, rfl⟩ := List.mem_iff_getElem.1 h
  have hk2 : k < i ∧ k < cl.length := by simpa [Nat.lt_min] using hk
  refine ⟨k, hk2.1, ?_⟩
  rw [List.getD_eq_getElem?_getD, List.getElem?_eq_getElem hk2.2]
  simp

/-- Of the first i states: the classes are the numbers below c, and at least c of them are first of their class. -/
structure Cl (fin : List Nat) (i c : Nat) : Prop where
  lt : ∀ k, k < i → fin.getD k 0 < c
  le : c ≤ i
  fi : c ≤ firsts fin i
  pos : 0 < i → 0 < c

theorem Cl.start (fin : List Nat) : Cl fin 0 0 := ⟨fun k h => by omega, by omega, by omega, fun h => by omega⟩
theorem Cl.fresh {fin : List Nat} {i c : Nat} (h : Cl fin i c) (hi : i < fin.length) : Cl (fin.set i c) (i + 1) (c + 1) := by
  refine ⟨fun k hk => ?_, by have := h.le; omega, ?_, fun _ => by omega⟩
  · by_cases e : i = k
    · subst e; rw [getD_set_eq fin i c hi]; omega
    · rw [getD_set_ne fin i k c e]; have := h.lt k (by omega); omega
  · have hn : newB (fin.set i c) i = true := by
      unfold newB
      rw [getD_set_eq fin i c hi, take_set fin i i c (Nat.le_refl _)]
      simp only [Bool.not_eq_true', List.contains_eq_mem, decide_eq_false_iff_not]
      intro hm
      obtain ⟨k, hk, hx⟩ := mem_take_getD fin i c hm
      have := h.lt k hk
      omega
    rw [firsts_succ, hn, if_pos rfl, firsts_set fin i c i (Nat.le_refl _)]
    have := h.fi
    omega
theorem Cl.old {fin : List Nat} {i c j : Nat} (h : Cl fin i c) (hi : i < fin.length) (hj : j < i) : Cl (fin.set i (fin.getD j 0)) (i + 1) c := by
  refine ⟨fun k hk => ?_, by have := h.le; omega, ?_, fun _ => h.pos (by omega)⟩
  · by_cases e : i = k
    · subst e; rw [getD_set_eq fin i _ hi]; exact h.lt j hj
    · rw [getD_set_ne fin i k _ e]; exact h.lt k (by omega)
  · rw [firsts_succ, firsts_set fin i _ i (Nat.le_refl _)]
    have := h.fi
    omega
/-- Where j ahead of i is of i's class, i is no first. -/
theorem newB_old (cls : List Nat) (i j : Nat) (hj : j < i) (hi : i < cls.length) (h : cls[i]? = cls[j]?) : newB cls i = false := by
  unfold newB
  have : cls.getD i 0 ∈ cls.take i := by
    rw [List.getD_eq_getElem?_getD, h]
    rw [List.getElem?_eq_getElem (by omega)]
    exact List.mem_iff_getElem.2 ⟨j, by simp; omega, by simp⟩
  simp [List.contains_eq_mem] 
  rw [List.getD_eq_getElem?_getD] at this
  exact this
theorem firsts_one (cls : List Nat) (i : Nat) : firsts cls (i + 1) ≤ firsts cls i + 1 := by rw [firsts_succ]; split <;> omega
theorem firsts_old (cls : List Nat) (i j : Nat) (hj : j < i) (hi : i < cls.length) (h : cls[i]? = cls[j]?) : firsts cls (i + 1) = firsts cls i := by
  rw [firsts_succ, newB_old cls i j hj hi h]; simp

/-- Which pair of classes the thing i is of: its own, that of what it leads to. -/
def pr (cl T : List Nat) (m i : Nat) : Nat := cl.getD i 0 * m + cl.getD (T.getD i 0) 0
theorem pr_lt {cl T : List Nat} {n m i : Nat} (hC : Cl cl n m) (hT : ∀ k, k < n → T.getD k 0 < n) (hi : i < n) : cl.getD i 0 * m + cl.getD (T.getD i 0) 0 < m * m := by
  have h1 := hC.lt i hi
  have h2 := hC.lt (T.getD i 0) (hT i hi)
  have h3 : (cl.getD i 0 + 1) * m ≤ m * m := Nat.mul_le_mul_right m h1
  rw [Nat.succ_mul] at h3
  omega
theorem pr_inj {cl T : List Nat} {n m i j : Nat} (hC : Cl cl n m) (hT : ∀ k, k < n → T.getD k 0 < n) (hi : i < n) (hj : j < n) (h : pr cl T m i = pr cl T m j) : cl.getD i 0 = cl.getD j 0 := by
  have h2 := hC.lt (T.getD i 0) (hT i hi)
  have h3 := hC.lt (T.getD j 0) (hT j hj)
  unfold pr at h
  have e1 : (cl.getD i 0 * m + cl.getD (T.getD i 0) 0) / m = cl.getD i 0 := by
    rw [Nat.mul_comm, Nat.mul_add_div (by omega), Nat.div_eq_of_lt h2, Nat.add_zero]
  have e2 : (cl.getD j 0 * m + cl.getD (T.getD j 0) 0) / m = cl.getD j 0 := by
    rw [Nat.mul_comm, Nat.mul_add_div (by omega), Nat.div_eq_of_lt h3, Nat.add_zero]
  rw [← e1, h, e2]

/-- Of the first i things: their new classes, and the pairs that were met. -/
structure Sp (cl T : List Nat) (m : Nat) (met fin : List Nat) (i c : Nat) : Prop where
  cls : Cl fin i c
  len : met.length = m * m
  old : ∀ p, met.getD p 0 ≠ 0 → ∃ j, j < i ∧ pr cl T m j = p ∧ fin.getD j 0 + 1 = met.getD p 0
  lo : firsts cl i ≤ c

theorem getD_rep (n k : Nat) : (List.replicate n 0).getD k 0 = 0 := by
  rw [List.getD_eq_getElem?_getD, List.getElem?_replicate]; split <;> rfl
theorem Sp.start (cl T : List Nat) (m : Nat) (fin : List Nat) : Sp cl T m (List.replicate (m * m) 0) fin 0 0 :=
  ⟨Cl.start _, by simp, fun p h => absurd (getD_rep _ p) h, Nat.le_refl _⟩
theorem Sp.fresh {cl T : List Nat} {m : Nat} {met fin : List Nat} {i c : Nat} (h : Sp cl T m met fin i c) (hi : i < fin.length) (hp : pr cl T m i < met.length) :
    Sp cl T m (met.set (pr cl T m i) (c + 1)) (fin.set i c) (i + 1) (c + 1) := by
  refine ⟨h.cls.fresh hi, by simp [h.len], fun p hne => ?_, ?_⟩
  · by_cases e : pr cl T m i = p
    · subst e
      exact ⟨i, by omega, rfl, by rw [getD_set_eq _ _ _ hp, getD_set_eq _ _ _ hi]⟩
    · rw [getD_set_ne _ _ _ _ e] at hne ⊢
      obtain ⟨j, hj, h1, h2⟩ := h.old p hne
      exact ⟨j, by omega, h1, by rw [getD_set_ne _ _ _ _ (by omega)]; exact h2⟩
  · have := firsts_one cl i
    have := h.lo
    omega
theorem Sp.again {cl T : List Nat} {n m : Nat} {met fin : List Nat} {i c x : Nat} (h : Sp cl T m met fin i c) (hC : Cl cl n m) (hcl : cl.length = n) (hT : ∀ k, k < n → T.getD k 0 < n) (hin : i < n) (hi : i < fin.length)
    (hx : met.getD (pr cl T m i) 0 = x) (hne : x ≠ 0) : Sp cl T m met (fin.set i (x - 1)) (i + 1) c ∧ x ≤ c := by
  obtain ⟨j, hj, h1, h2⟩ := h.old _ (by rw [hx]; exact hne)
  have e := pr_inj hC hT (by omega) hin h1
  have e2 : cl[i]? = cl[j]? := by
    simp only [List.getD_eq_getElem?_getD] at e
    rw [List.getElem?_eq_getElem (show j < cl.length by omega), List.getElem?_eq_getElem (show i < cl.length by omega)] at e ⊢
    simp at e
    rw [e]
  have e3 : x - 1 = fin.getD j 0 := by omega
  have hjc := h.cls.lt j hj
  refine ⟨⟨by rw [e3]; exact h.cls.old hi hj, h.len, fun p hp => ?_, by rw [firsts_old cl i j hj (by omega) e2]; exact h.lo⟩, by omega⟩
  obtain ⟨k, hk, h3, h4⟩ := h.old p hp
  exact ⟨k, by omega, h3, by rw [getD_set_ne _ _ _ _ (by omega)]; exact h4⟩
end Go.Proofs.YtmbapmbpnnaanabDoor
