import Derived.Test.YtmbapmbpnnaanabGreatSD
/- Classes of states, plainly. -/
namespace Go.Proofs.YtmbapmbpnnaanabGreat.Ld

def newB (cl : List Nat) (i : Nat) : Bool := !((cl.take i).contains (cl.getD i 0))
def firsts (cl : List Nat) (k : Nat) : Nat := ((List.range k).filter (newB cl)).length
theorem firsts_succ (cl : List Nat) (k : Nat) : firsts cl (k + 1) = firsts cl k + if newB cl k = true then 1 else 0 := by
  unfold firsts
  rw [List.range_succ, List.filter_append, List.length_append]
  congr 1
  by_cases h : newB cl k = true <;> simp [h]
theorem newB_congr (a b : List Nat) (i : Nat) (h : a.take (i + 1) = b.take (i + 1)) : newB a i = newB b i := by
  have h1 : a.take i = b.take i := by
    have := congrArg (List.take i) h
    rwa [List.take_take, List.take_take, Nat.min_eq_left (Nat.le_succ i)] at this
  have h2 : a.getD i 0 = b.getD i 0 := by
    have := congrArg (fun l => l[i]?) h
    simp only [List.getElem?_take] at this
    rw [if_pos (Nat.lt_succ_self i), if_pos (Nat.lt_succ_self i)] at this
    rw [List.getD_eq_getElem?_getD, List.getD_eq_getElem?_getD, this]
  unfold newB
  rw [h1, h2]
theorem take_set (cl : List Nat) (i k v : Nat) (h : k ≤ i) : (cl.set i v).take k = cl.take k := by
  rw [List.take_set_of_le h]
theorem firsts_set (cl : List Nat) (i v : Nat) : ∀ k, k ≤ i → firsts (cl.set i v) k = firsts cl k
  | 0, _ => rfl
  | k + 1, h => by
    rw [firsts_succ, firsts_succ, firsts_set cl i v k (by omega), newB_congr _ _ _ (take_set cl i (k + 1) v h)]
theorem getD_set_ne (cl : List Nat) (i k v : Nat) (h : i ≠ k) : (cl.set i v).getD k 0 = cl.getD k 0 := by
  simp only [List.getD_eq_getElem?_getD, List.getElem?_set]; rw [if_neg h]
theorem getD_set_eq (cl : List Nat) (i v : Nat) (h : i < cl.length) : (cl.set i v).getD i 0 = v := by
  simp only [List.getD_eq_getElem?_getD, List.getElem?_set]; rw [if_pos trivial, if_pos h]; rfl
theorem mem_take_getD (cl : List Nat) (i : Nat) (x : Nat) (h : x ∈ cl.take i) : ∃ k, k < i ∧ cl.getD k 0 = x := by
  obtain ⟨k, hk, rfl⟩ := List.mem_iff_getElem.1 h
  have hk2 : k < i ∧ k < cl.length := by simpa [Nat.lt_min] using hk
  refine ⟨k, hk2.1, ?_⟩
  rw [List.getD_eq_getElem?_getD, List.getElem?_eq_getElem hk2.2]
  simp

/-- Of the first i states: the classes are the numbers below c, and at least c of them are first of their class. -/
structure Cl (fin : List Nat) (i c : Nat) : Prop where
  lt : ∀ k, k < i → fin.getD k 0 < c
  le : c ≤ i
  fi : c ≤ firsts fin i
  pos : 0 < i → 0 < c

theorem Cl.start (fin : List Nat) : Cl fin 0 0 := ⟨fun k h => by omega, by omega, by omega, fun h => by omega⟩
theorem Cl.fresh {fin : List Nat} {i c : Nat} (h : Cl fin i c) (hi : i < fin.length) : Cl (fin.set i c) (i + 1) (c + 1) := by
  refine ⟨fun k hk => ?_, by have := h.le; omega, ?_, fun _ => by omega⟩
  · by_cases e : i = k
    · subst e; rw [getD_set_eq fin i c hi]; omega
    · rw [getD_set_ne fin i k c e]; have := h.lt k (by omega); omega
  · have hn : newB (fin.set i c) i = true := by
      unfold newB
      rw [getD_set_eq fin i c hi, take_set fin i i c (Nat.le_refl _)]
      simp only [Bool.not_eq_true', List.contains_eq_mem, decide_eq_false_iff_not]
      intro hm
      obtain ⟨k, hk, hx⟩ := mem_take_getD fin i c hm
      have := h.lt k hk
      omega
    rw [firsts_succ, hn, if_pos rfl, firsts_set fin i c i (Nat.le_refl _)]
    have := h.fi
    omega
theorem Cl.old {fin : List Nat} {i c j : Nat} (h : Cl fin i c) (hi : i < fin.length) (hj : j < i) : Cl (fin.set i (fin.getD j 0)) (i + 1) c := by
  refine ⟨fun k hk => ?_, by have := h.le; omega, ?_, fun _ => h.pos (by omega)⟩
  · by_cases e : i = k
    · subst e; rw [getD_set_eq fin i _ hi]; exact h.lt j hj
    · rw [getD_set_ne fin i k _ e]; exact h.lt k (by omega)
  · rw [firsts_succ, firsts_set fin i _ i (Nat.le_refl _)]
    have := h.fi
    omega
/-- Where j ahead of i is of i's class, i is no first. -/
theorem newB_old (cls : List Nat) (i j : Nat) (hj : j < i) (hi : i < cls.length) (h : cls[i]? = cls[j]?) : newB cls i = false := by
  unfold newB
  have : cls.getD i 0 ∈ cls.take i := by
    rw [List.getD_eq_getElem?_getD, h]
    rw [List.getElem?_eq_getElem (by omega)]
    exact List.mem_iff_getElem.2 ⟨j, by simp; omega, by simp⟩
  simp [List.contains_eq_mem] 
  rw [List.getD_eq_getElem?_getD] at this
  exact this
theorem firsts_one (cls : List Nat) (i : Nat) : firsts cls (i + 1) ≤ firsts cls i + 1 := by rw [firsts_succ]; split <;> omega
theorem firsts_old (cls : List Nat) (i j : Nat) (hj : j < i) (hi : i < cls.length) (h : cls[i]? = cls[j]?) : firsts cls (i + 1) = firsts cls i := by
  rw [firsts_succ, newB_old cls i j hj hi h]; simp

/-- Which pair of classes the thing i is of: its own, that of what it leads to. -/
def pr (cl T : List Nat) (m i : Nat) : Nat := cl.getD i 0 * m + cl.getD (T.getD i 0) 0
theorem pr_lt {cl T : List Nat} {n m i : Nat} (hC : Cl cl n m) (hT : ∀ k, k < n → T.getD k 0 < n) (hi : i < n) : cl.getD i 0 * m + cl.getD (T.getD i 0) 0 < m * m := by
  have h1 := hC.lt i hi
  have h2 := hC.lt (T.getD i 0) (hT i hi)
  have h3 : (cl.getD i 0 + 1) * m ≤ m * m := Nat.mul_le_mul_right m h1
  rw [Nat.succ_mul] at h3
  omega
theorem pr_inj {cl T : List Nat} {n m i j : Nat} (hC : Cl cl n m) (hT : ∀ k, k < n → T.getD k 0 < n) (hi : i < n) (hj : j < n) (h : pr cl T m i = pr cl T m j) : cl.getD i 0 = cl.getD j 0 := by
  have h2 := hC.lt (T.getD i 0) (hT i hi)
  have h3 := hC.lt (T.getD j 0) (hT j hj)
  unfold pr at h
  have e1 : (cl.getD i 0 * m + cl.getD (T.getD i 0) 0) / m = cl.getD i 0 := by
    rw [Nat.mul_comm, Nat.mul_add_div (by omega), Nat.div_eq_of_lt h2, Nat.add_zero]
  have e2 : (cl.getD j 0 * m + cl.getD (T.getD j 0) 0) / m = cl.getD j 0 := by
    rw [Nat.mul_comm, Nat.mul_add_div (by omega), Nat.div_eq_of_lt h3, Nat.add_zero]
  rw [← e1, h, e2]

/-- Of the first i things: their new classes, and the pairs that were met. -/
structure Sp (cl T : List Nat) (m : Nat) (met fin : List Nat) (i c : Nat) : Prop where
  cls : Cl fin i c
  len : met.length = m * m
  old : ∀ p, met.getD p 0 ≠ 0 → ∃ j, j < i ∧ pr cl T m j = p ∧ fin.getD j 0 + 1 = met.getD p 0
  lo : firsts cl i ≤ c

theorem getD_rep (n k : Nat) : (List.replicate n 0).getD k 0 = 0 := by
  rw [List.getD_eq_getElem?_getD, List.getElem?_replicate]; split <;> rfl
theorem Sp.start (cl T : List Nat) (m : Nat) (fin : List Nat) : Sp cl T m (List.replicate (m * m) 0) fin 0 0 :=
  ⟨Cl.start _, by simp, fun p h => absurd (getD_rep _ p) h, Nat.le_refl _⟩
theorem Sp.fresh {cl T : List Nat} {m : Nat} {met fin : List Nat} {i c : Nat} (h : Sp cl T m met fin i c) (hi : i < fin.length) (hp : pr cl T m i < met.length) :
    Sp cl T m (met.set (pr cl T m i) (c + 1)) (fin.set i c) (i + 1) (c + 1) := by
  refine ⟨h.cls.fresh hi, by simp [h.len], fun p hne => ?_, ?_⟩
  · by_cases e : pr cl T m i = p
    · subst e
      exact ⟨i, by omega, rfl, by rw [getD_set_eq _ _ _ hp, getD_set_eq _ _ _ hi]⟩
    · rw [getD_set_ne _ _ _ _ e] at hne ⊢
      obtain ⟨j, hj, h1, h2⟩ := h.old p hne
      exact ⟨j, by omega, h1, by rw [getD_set_ne _ _ _ _ (by omega)]; exact h2⟩
  · have := firsts_one cl i
    have := h.lo
    omega
theorem Sp.again {cl T : List Nat} {n m : Nat} {met fin : List Nat} {i c x : Nat} (h : Sp cl T m met fin i c) (hC : Cl cl n m) (hcl : cl.length = n) (hT : ∀ k, k < n → T.getD k 0 < n) (hin : i < n) (hi : i < fin.length)
    (hx : met.getD (pr cl T m i) 0 = x) (hne : x ≠ 0) : Sp cl T m met (fin.set i (x - 1)) (i + 1) c ∧ x ≤ c := by
  obtain ⟨j, hj, h1, h2⟩ := h.old _ (by rw [hx]; exact hne)
  have e := pr_inj hC hT (by omega) hin h1
  have e2 : cl[i]? = cl[j]? := by
    simp only [List.getD_eq_getElem?_getD] at e
    rw [List.getElem?_eq_getElem (show j < cl.length by omega), List.getElem?_eq_getElem (show i < cl.length by omega)] at e ⊢
    simp at e
    rw [e]
  have e3 : x - 1 = fin.getD j 0 := by omega
  have hjc := h.cls.lt j hj
  refine ⟨⟨by rw [e3]; exact h.cls.old hi hj, h.len, fun p hp => ?_, by rw [firsts_old cl i j hj (by omega) e2]; exact h.lo⟩, by omega⟩
  obtain ⟨k, hk, h3, h4⟩ := h.old p hp
  exact ⟨k, by omega, h3, by rw [getD_set_ne _ _ _ _ (by omega)]; exact h4⟩
end Go.Proofs.YtmbapmbpnnaanabGreat.Ld

namespace Go.Proofs.YtmbapmbpnnaanabGreat.Ld
open Go.RowKit

theorem icells_getD (xs : List Nat) (i : Nat) (h : i < xs.length) : xs[i]? = some (xs.getD i 0) := by
  rw [List.getD_eq_getElem?_getD, List.getElem?_eq_getElem h]; rfl
theorem cell_alloc {w : World} {b o : Nat} {v : Value} (h : w.cell? ⟨b, o, none⟩ = some v) (x : Obj) : (w.alloc x).cell? ⟨b, o, none⟩ = some v := by
  have hb : b < w.heap.size := by
    rcases Nat.lt_or_ge b w.heap.size with h2 | h2
    · exact h2
    · simp [World.cell?, h2] at h
  unfold World.cell? at h ⊢
  rw [Below.heap_alloc _ _ _ hb]
  exact h
theorem below_dr {B : Nat} {a w : World} (h : Below B a w) : Below B a w.drew := ⟨h.os, h.tape, h.output, h.size, h.block⟩
/-- The blocks of 'bySaid' (S: the first). -/
structure Bk (wr : World) (S : Nat) (fin : List Nat) (n c : Nat) : Prop where
  res : wr.heap[S]? = some (.cells #[.slice none 0 0, .int .i64 0] 146 (0, 0))
  fin : wr.heap[S + 1]? = some (.cells (icells fin) 3 (0, 0))
  cur : wr.heap[S + 1 + 1]? = some (.cells #[.slice (some ⟨S + 1, 0, none⟩) n n, .int .i64 (c : Int)] 146 (0, 0))
section
variable {w : World} {S : Nat} {fin : List Nat} {n c : Nat}
theorem Bk.lt (h : Bk w S fin n c) : S + 2 < w.heap.size := (Array.getElem?_eq_some_iff.1 h.cur).1
theorem Bk.alloc (h : Bk w S fin n c) (o : Obj) : Bk (w.alloc o) S fin n c := by
  have hl := h.lt
  exact ⟨(Below.heap_alloc _ _ _ (by omega)).trans h.res, (Below.heap_alloc _ _ _ (by omega)).trans h.fin, (Below.heap_alloc _ _ _ (by omega)).trans h.cur⟩
theorem Bk.count (h : Bk w S fin n c) (d : Nat) : Bk (w.setCell ⟨S + 1 + 1, 1, none⟩ (.int .i64 (d : Int))) S fin n d :=
  ⟨blk_other h.res _ _ (by omega), blk_other h.fin _ _ (by omega), blk_set h.cur 1 _⟩
theorem Bk.put (h : Bk w S fin n c) (i x : Nat) : Bk (w.setCell ⟨S + 1, i, none⟩ (.int .i64 (x : Int))) S (fin.set i x) n c :=
  ⟨blk_other h.res _ _ (by omega), by rw [← icells_set]; exact blk_set h.fin i _, blk_other h.cur _ _ (by omega)⟩
theorem Bk.drew (h : Bk w S fin n c) : Bk w.drew S fin n c := ⟨h.res, h.fin, h.cur⟩
theorem Bk.drewN (h : Bk w S fin n c) (k : Nat) : Bk (w.drewN k) S fin n c := ⟨h.res, h.fin, h.cur⟩
theorem Bk.start (w : World) (n : Nat) : Bk (((w.alloc (.cells #[.slice none 0 0, .int .i64 0] 146)).alloc (.cells (icells (List.replicate n 0)) 3)).alloc (.cells #[.slice (some ⟨w.heap.size + 1, 0, none⟩) n n, .int .i64 0] 146)) w.heap.size (List.replicate n 0) n 0 := by
  constructor
  · rw [Below.heap_alloc _ _ _ (by simp; omega), Below.heap_alloc _ _ _ (by simp)]; exact heap_alloc_new w _
  · rw [Below.heap_alloc _ _ _ (by simp)]; simpa using heap_alloc_new (w.alloc (.cells #[.slice none 0 0, .int .i64 0] 146)) (.cells (icells (List.replicate n 0)) 3)
  · simpa using heap_alloc_new ((w.alloc (.cells #[.slice none 0 0, .int .i64 0] 146)).alloc (.cells (icells (List.replicate n 0)) 3)) (.cells #[.slice (some ⟨w.heap.size + 1, 0, none⟩) n n, .int .i64 0] 146)
end

theorem eqArrX (A B C D A' B' C' D' : ByteArray) (w : World) : (Op.equalIn 10000 72 (.agg #[.string A, .string B, .string C, .string D]) (.agg #[.string A', .string B', .string C', .string D'])).run Tryz.prog w = .ok ((A.toList == A'.toList) && ((B.toList == B'.toList) && ((C.toList == C'.toList) && (D.toList == D'.toList)))) w := by
  obtain ⟨i0, hinf, -⟩ := info_parts Tryz.info9
  rw [run_equalIn_array w 9999 _ _ Tryz.underlying72 hinf, range4]
  have e : ∀ (a b : ByteArray) (w : World), (Op.equalIn 9999 9 (.string a) (.string b)).run Tryz.prog w = .ok (a.toList == b.toList) w := fun a b w => run_equalIn_string w 9998 9 a b Tryz.underlying9
  rw [Tryz.cells9]
  simp only [Op.eqItems, Nat.mul_one, Sem.run_bind, Sem.run_ite, Sem.run_pure, part0, part1, part2, part3, Result.andThen_ok, e]
  cases (A.toList == A'.toList) <;> cases (B.toList == B'.toList) <;> cases (C.toList == C'.toList) <;> cases (D.toList == D'.toList) <;> rfl

/-- Whether two states say the same at once. -/
def sameQ (p q : St) : Bool := (p.en == q.en) && ((p.sd.getD 0 [] == q.sd.getD 0 []) && ((p.sd.getD 1 [] == q.sd.getD 1 []) && ((p.sd.getD 2 [] == q.sd.getD 2 []) && (p.sd.getD 3 [] == q.sd.getD 3 []))))
def bsFind (q : St) : List St → Nat → Option Nat
  | [], _ => none
  | p :: r, j => if sameQ p q then some j else bsFind q r (j + 1)
def bsGo (sts : List St) : Nat → Nat → List Nat → Nat → List Nat × Nat
  | 0, _, fin, c => (fin, c)
  | k + 1, i, fin, c => match bsFind (sts.getD i ⟨[], [], []⟩) (sts.take i) 0 with
    | some j => bsGo sts k (i + 1) (fin.set i (fin.getD j 0)) c
    | none => bsGo sts k (i + 1) (fin.set i c) (c + 1)
def bySaidM (sts : List St) : List Nat × Nat := bsGo sts sts.length 0 (List.replicate sts.length 0) 0
theorem bsGo_step {sts : List St} {n i : Nat} {fin : List Nat} {c : Nat} {q : St} (hi : i < n) (hq : sts[i]? = some q) : bsGo sts (n - i) i fin c = match bsFind q (sts.take i) 0 with
    | some j => bsGo sts (n - (i + 1)) (i + 1) (fin.set i (fin.getD j 0)) c
    | none => bsGo sts (n - (i + 1)) (i + 1) (fin.set i c) (c + 1) := by
  obtain ⟨k, hk⟩ : ∃ k, n - i = k + 1 := ⟨n - i - 1, by omega⟩
  rw [hk, show n - (i + 1) = k by omega, bsGo, List.getD_eq_getElem?_getD, hq]
  rfl
theorem bsFind_step {sts : List St} {i j : Nat} {p q : St} (hj : j < i) (hp : sts[j]? = some p) : bsFind q ((sts.take i).drop j) j = if sameQ p q then some j else bsFind q ((sts.take i).drop (j + 1)) (j + 1) := by
  have h1 : (sts.take i)[j]? = some p := by rw [List.getElem?_take, if_pos hj, hp]
  obtain ⟨h2, h3⟩ := List.getElem?_eq_some_iff.1 h1
  rw [List.drop_eq_getElem_cons h2, h3, bsFind]
theorem toList_mk (l : List UInt8) : (⟨l.toArray⟩ : ByteArray).toList = l := by rw [toList_data]

set_option maxHeartbeats 2000000 in
set_option maxRecDepth 100000 in
theorem bySaidX_any (v : Value) (sts : List St) (w : World) (hst : Sts w v sts) (h0 : 0 < sts.length) (hl : sts.length ≤ 200) :
    Calls Tryz.prog 73 #[v] w fun e w' => ∃ u, e = .returned (.agg #[u, .int .i64 ((bySaidM sts).2 : Int)]) ∧ Ints w' u (bySaidM sts).1 ∧ (bySaidM sts).1.length = sts.length ∧ (bySaidM sts).2 ≤ sts.length ∧ Below w.heap.size w w' := by
  obtain ⟨g, cap, rfl, hg, hcap⟩ := hst.form h0
  have hnine := fun (wx : World) (hb : Below w.heap.size w wx) (i : Nat) (q : St) (hq : sts[i]? = some q) => (hst.below hb (Nat.le_refl _)).nine i q hq
  obtain ⟨n, hn⟩ : ∃ n, n = sts.length := ⟨_, rfl⟩
  have hget : ∀ i, i < n → ∃ q, sts[i]? = some q := fun i hi => ⟨sts[i]'(by omega), List.getElem?_eq_getElem _⟩
  have HM : Hid (bySaidM sts = bsGo sts n 0 (List.replicate n 0) 0) := by show bySaidM sts = _; unfold bySaidM; rw [hn]
  rw [← hn] at h0 hl hcap hst ⊢
  have HNINE : Hid _ := hnine
  have HGET : Hid _ := hget
  have hmk := make_ints n hl
  clear hn hst hnine hget
  go_enter Tryz.func73, Tryz.ntmps73
  go_wp2
  clear hmk
  go_loopw [14] (fun ii wr => ∃ (fin : List Nat) (i c : Nat), i ≤ n ∧ ii = .int .i64 (i : Int) ∧ fin.length = n ∧ Cl fin i c ∧ bsGo sts (n - i) i fin c = bySaidM sts ∧ Bk wr w.heap.size fin n c ∧ Below w.heap.size w wr) (fun ii _ => n - (intOf ii).toNat)
  case atStart => exact ⟨List.replicate n 0, 0, 0, by omega, rfl, by simp, Cl.start _, HM.out.symm, Bk.start w n, (((Below.refl _ _).alloc (Nat.le_refl _) _).alloc (by simp) _).alloc (by simp; try omega) _⟩
  case round =>
    obtain ⟨fin, i, c, hi, rfl, hfl, hC, hgo, hbk, hb⟩ := hrel
    have hci := hC.le
    have HC : Hid (Cl fin i c) := hC
    have hS2 := hbk.lt
    have k0 := blk_cell hbk.cur 0 _ rfl
    have k1 := blk_cell hbk.cur 1 _ rfl
    simp only [List.getElem_toArray, List.getElem_cons_zero, List.getElem_cons_succ] at k0 k1
    have HBK : Hid (Bk wr w.heap.size fin n c) := hbk
    by_cases hlt : i < n
    · have cx := blk_cell hbk.fin i _ (icells_get fin i _ (icells_getD fin i (by omega)))
      have fx := blk_free hbk.fin i
      have cxA : ∀ o, (wr.alloc o).cell? ⟨w.heap.size + 1, i, none⟩ = some (.int .i64 ((fin.getD i 0 : Nat) : Int)) := fun o => cell_alloc cx o
      have fxA : ∀ o, (wr.alloc o).frozen? ⟨w.heap.size + 1, i, none⟩ = false := fun o => blk_free (hbk.alloc o).fin i
      obtain ⟨q, hq⟩ := HGET.out i hlt
      have HGO : Hid (_ = bySaidM sts) := (bsGo_step hlt hq).symm.trans hgo
      have HQ : Hid (sts[i]? = some q) := hq
      obtain ⟨S0, S1, S2, S3, S4, N0, N1, N2, N3, hSQ, a0, a1, a2, a3, a4, a5, a6, a7, a8⟩ := HNINE.out wr hb i q hq
      have hii : (i : Int) ≤ (cap : Int) := by omega
      have hn1 : ¬ w.heap.size + 1 = wr.heap.size := by omega
      have hn2 : ¬ w.heap.size + 1 + 1 = wr.heap.size := by omega
      have HQB : Hid (∀ o, ((wr.alloc o).setCell ⟨w.heap.size + 1, i, none⟩ (.int .i64 (c : Int))).heap[wr.heap.size]? = some o) := fun o => blk_other (heap_alloc_new wr o) _ _ (by omega)
      have HFB : Hid (∀ o, Bk ((wr.alloc o).setCell ⟨w.heap.size + 1, i, none⟩ (.int .i64 (c : Int))) w.heap.size (fin.set i c) n c) := fun o => (HBK.out.alloc o).put i c
      have HB' : Hid (∀ o, Below w.heap.size w ((wr.alloc o).setCell ⟨w.heap.size + 1, i, none⟩ (.int .i64 (c : Int)))) := fun o => (hb.alloc (by omega) o).setCell (p := ⟨w.heap.size + 1, i, none⟩) (by simp) _
      have HSQ : Hid _ := hSQ
      clear hbk hC hq hSQ hgo
      go_wp2
      obtain ⟨H, hH⟩ : ∃ H, H = wr.heap.size := ⟨_, rfl⟩
      have hHw : w.heap.size + 2 < H := by omega
      rw [← hH] at HQB
      rw [← hH]
      clear hH
      go_loopw [29] (fun jj wx => ∃ (j : Nat), j ≤ i ∧ jj = .int .i64 (j : Int) ∧ bsFind q ((sts.take i).drop j) j = bsFind q (sts.take i) 0 ∧ Bk wx w.heap.size (fin.set i c) n c ∧
          wx.heap[H]? = some (.cells #[.string S0, .string S1, .string S2, .string S3, .string S4, .int .i64 (N0 : Int), .int .i64 (N1 : Int), .int .i64 (N2 : Int), .int .i64 (N3 : Int)] 75 (0, 0)) ∧ Below w.heap.size w wx) (fun jj _ => i - (intOf jj).toNat)
      case atStart => exact ⟨0, by omega, rfl, rfl, HFB.out _, HQB.out _, HB'.out _⟩
      case round =>
        obtain ⟨j, hj, rfl, hfd, hbk, hqb, hb2⟩ := hrel
        have hl2 : (fin.set i c).length = n := by simp [hfl]
        clear cx fx cxA fxA HFB HQB HB' a0 a1 a2 a3 a4 a5 a6 a7 a8 k0 k1 HBK hn1 hn2
        have HB2 : Hid (Bk wr w.heap.size (fin.set i c) n c) := hbk
        have HQ2 : Hid _ := hqb
        have hS3 := hbk.lt
        by_cases hji : j < i
        · have q0 := blk_cell hqb 0 _ rfl
          have q1 := blk_cell hqb 1 _ rfl
          have q2 := blk_cell hqb 2 _ rfl
          have q3 := blk_cell hqb 3 _ rfl
          have q4 := blk_cell hqb 4 _ rfl
          simp only [List.getElem_toArray, List.getElem_cons_zero, List.getElem_cons_succ] at q0 q1 q2 q3 q4
          have hqs := (Array.getElem?_eq_some_iff.1 hqb).1
          have hqn : ¬ H = wr.heap.size := by omega
          have hjc := HC.out.lt j hji
          obtain ⟨x, hx⟩ : ∃ x, x = fin.getD j 0 := ⟨_, rfl⟩
          rw [← hx] at hjc
          have HX : Hid (x = fin.getD j 0) := hx
          obtain ⟨p, hp⟩ := HGET.out j (by omega)
          have HFD : Hid (_ = bsFind q (sts.take i) 0) := (bsFind_step hji hp).symm.trans hfd
          obtain ⟨T0, T1, T2, T3, T4, M0, M1, M2, M3, hSP, b0, b1, b2, b3, b4, b5, b6, b7, b8⟩ := HNINE.out wr hb2 j p hp
          have hbb := eqArrX T1 T2 T3 T4 S1 S2 S3 S4
          obtain ⟨bb, hbe⟩ : ∃ b, b = ((T1.toList == S1.toList) && ((T2.toList == S2.toList) && ((T3.toList == S3.toList) && (T4.toList == S4.toList)))) := ⟨_, rfl⟩
          rw [← hbe] at hbb
          have HSM : Hid (sameQ p q = ((T0.toList == S0.toList) && bb)) := by
            show sameQ p q = ((T0.toList == S0.toList) && bb)
            obtain ⟨e1, e2, -⟩ := hSP
            obtain ⟨d1, d2, -⟩ := HSQ.out
            simp only [St.saids, List.map_cons, List.map_nil, List.cons.injEq, and_true] at e2 d2
            rw [hbe, e1, e2.1, e2.2.1, e2.2.2.1, e2.2.2.2, d1, d2.1, d2.2.1, d2.2.2.1, d2.2.2.2]
            simp only [toList_mk]
            rfl
          have HFA : Hid (∀ o, Bk (wr.alloc o) w.heap.size (fin.set i c) n c) := fun o => HB2.out.alloc o
          have HQA : Hid (∀ o, (wr.alloc o).heap[H]? = some (.cells #[.string S0, .string S1, .string S2, .string S3, .string S4, .int .i64 (N0 : Int), .int .i64 (N1 : Int), .int .i64 (N2 : Int), .int .i64 (N3 : Int)] 75 (0, 0))) := fun o => by rw [Below.heap_alloc _ _ _ (by omega)]; exact HQ2.out
          have HBA : Hid (∀ o, Below w.heap.size w (wr.alloc o)) := fun o => hb2.alloc (by omega) o
          clear hx hqb hp hbk hfd hbe hSP
          by_cases hT : T0.toList = S0.toList
          · have hTb : (T0.toList == S0.toList) = true := by rw [hT]; simp
            cases bb with
            | true =>
              have HG2 : Hid (bsGo sts (n - (i + 1)) (i + 1) (fin.set i x) c = bySaidM sts) := by
                have h1 := HFD.out
                rw [HSM.out, hTb] at h1
                simp only [Bool.and_self, if_true] at h1
                have h2 := HGO.out
                rw [← h1] at h2
                rw [HX.out]
                exact h2
              have hxc : ((x : Int) == (c : Int)) = false := by
                rw [beq_eq_false_iff_ne]
                omega
              have HC2 : Hid (Cl (fin.set i x) (i + 1) c) := by
                have := HC.out.old (by omega) hji
                rw [← HX.out] at this
                exact this
              go_wp2
              generalize hwa : wr.alloc (Obj.cells #[.string T0, .string T1, .string T2, .string T3, .string T4, .int .i64 (M0 : Int), .int .i64 (M1 : Int), .int .i64 (M2 : Int), .int .i64 (M3 : Int)] 75) = wa
              have hba := HFA.out (Obj.cells #[.string T0, .string T1, .string T2, .string T3, .string T4, .int .i64 (M0 : Int), .int .i64 (M1 : Int), .int .i64 (M2 : Int), .int .i64 (M3 : Int)] 75)
              have hbl := HBA.out (Obj.cells #[.string T0, .string T1, .string T2, .string T3, .string T4, .int .i64 (M0 : Int), .int .i64 (M1 : Int), .int .i64 (M2 : Int), .int .i64 (M3 : Int)] 75)
              rw [hwa] at hba hbl
              clear hwa q0 q1 q2 q3 q4 b0 b1 b2 b3 b4 b5 b6 b7 b8 hbb HFA HQA HBA
              have k0 := blk_cell hba.cur 0 _ rfl
              simp only [List.getElem_toArray, List.getElem_cons_zero] at k0
              have cj := blk_cell hba.fin j _ (icells_get _ j _ (icells_getD (fin.set i c) j (by omega)))
              rw [getD_set_ne fin i j c (by omega), ← HX.out] at cj
              have ci := blk_cell hba.fin i _ (icells_get _ i _ (icells_getD (fin.set i c) i (by omega)))
              have fi := blk_free hba.fin i
              have hni : (i : Int) < (n : Int) := by omega
              have hnj : (j : Int) < (n : Int) := by omega
              have HWA : Hid (Bk wa w.heap.size (fin.set i c) n c) := hba
              clear hba
              go_region
              go_wp2
              generalize hwb : (wa.setCell ⟨w.heap.size + 1, i, none⟩ (.int .i64 (x : Int))).drew = wb
              have hbb : Bk wb w.heap.size (fin.set i x) n c := by
                rw [← hwb]
                have := (HWA.out.put i x).drew
                rw [List.set_set] at this
                exact this
              have hbl2 : Below w.heap.size w wb := by
                rw [← hwb]
                exact below_dr (hbl.setCell (p := ⟨w.heap.size + 1, i, none⟩) (by simp) _)
              clear hwb k0 cj ci fi HWA hbl
              have k0 := blk_cell hbb.cur 0 _ rfl
              have k1 := blk_cell hbb.cur 1 _ rfl
              simp only [List.getElem_toArray, List.getElem_cons_zero, List.getElem_cons_succ] at k0 k1
              have ci := blk_cell hbb.fin i _ (icells_get _ i _ (icells_getD (fin.set i x) i (by simp; omega)))
              rw [getD_set_eq fin i x (by omega)] at ci
              have HBB : Hid (Bk wb w.heap.size (fin.set i x) n c) := hbb
              clear hbb
              go_quiet (fail)
              go_wp2
              go_roundw
              case rel => exact ⟨fin.set i x, i + 1, c, by omega, by go_num, by simp [hfl], HC2.out, HG2.out, HBB.out.drewN _, below_dN hbl2 _⟩
              case measure => simp [intOf]; omega
            | false =>
              have HF2 : Hid (bsFind q ((sts.take i).drop (j + 1)) (j + 1) = bsFind q (sts.take i) 0) := by
                have h1 := HFD.out
                rw [HSM.out, Bool.and_false] at h1
                simp only [Bool.false_eq_true, if_false] at h1
                exact h1
              go_wp2
              go_roundw
              case rel => exact ⟨j + 1, by omega, by go_num, HF2.out, HFA.out _, HQA.out _, HBA.out _⟩
              case measure => simp [intOf]; omega
          · have hTb : (T0.toList == S0.toList) = false := by simpa using hT
            have HF2 : Hid (bsFind q ((sts.take i).drop (j + 1)) (j + 1) = bsFind q (sts.take i) 0) := by
              have h1 := HFD.out
              rw [HSM.out, hTb, Bool.false_and] at h1
              simp only [Bool.false_eq_true, if_false] at h1
              exact h1
            clear hbb
            go_wp2
            go_roundw
            case rel => exact ⟨j + 1, by omega, by go_num, HF2.out, HFA.out _, HQA.out _, HBA.out _⟩
            case measure => simp [intOf]; omega
        · have k0 := blk_cell hbk.cur 0 _ rfl
          have k1 := blk_cell hbk.cur 1 _ rfl
          have fk1 := blk_free hbk.cur 1
          simp only [List.getElem_toArray, List.getElem_cons_zero, List.getElem_cons_succ] at k0 k1
          have ci := blk_cell hbk.fin i _ (icells_get _ i _ (icells_getD (fin.set i c) i (by omega)))
          rw [getD_set_eq fin i c (by omega)] at ci
          have hni : (i : Int) < (n : Int) := by omega
          have HG2 : Hid (bsGo sts (n - (i + 1)) (i + 1) (fin.set i c) (c + 1) = bySaidM sts) := by
            have h0 : (sts.take i).drop j = [] := List.drop_of_length_le (by rw [List.length_take]; omega)
            rw [h0] at hfd
            have h2 := HGO.out
            rw [← hfd] at h2
            exact h2
          clear hbk hqb hfd
          have HC2 : Hid (Cl (fin.set i c) (i + 1) (c + 1)) := HC.out.fresh (by omega)
          go_wp2
          go_quiet (fail)
          go_wp2
          go_roundw
          case rel =>
            refine ⟨fin.set i c, i + 1, c + 1, by omega, by go_num, by simp [hfl], HC2.out, HG2.out, ?_, ?_⟩
            · rw [show (c : Int) + 1 = ((c + 1 : Nat) : Int) by omega]
              exact (HB2.out.drewN _).count (c + 1)
            · exact (below_dN hb2 _).setCell (p := ⟨w.heap.size + 1 + 1, 1, none⟩) (by simp; omega) _
          case measure => simp [intOf]; omega
    · obtain rfl : i = n := by omega
      have y0 := blk_cell hbk.res 0 _ rfl
      have y1 := blk_cell hbk.res 1 _ rfl
      have fy0 := blk_free hbk.res 0
      have fy1 := blk_free hbk.res 1
      clear hbk hC
      go_wp2
      refine bodyPost_ret (v := .agg #[.slice (some ⟨w.heap.size + 1, 0, none⟩) i i, .int .i64 (c : Int)]) (by simp [results, Tryz.results73, go_sem, y0, y1]) rfl ?_
      have HE : Hid (bySaidM sts = (fin, c)) := by rw [← hgo, Nat.sub_self]; rfl
      rw [HE.out]
      refine ⟨_, rfl, ?_, hfl, hci, (hb.setCell (p := ⟨w.heap.size, 0, none⟩) (by simp) _).setCell (p := ⟨w.heap.size, 1, none⟩) (by simp) _⟩
      have h3 := blk_other (q := w.heap.size) (blk_other (q := w.heap.size) HBK.out.fin 0 (.slice (some ⟨w.heap.size + 1, 0, none⟩) i i) (by omega)) 1 (.int .i64 (c : Int)) (by omega)
      have hin2 := Ints.of_block h3 (by omega)
      rw [hfl] at hin2
      exact hin2
end Go.Proofs.YtmbapmbpnnaanabGreat.Ld
