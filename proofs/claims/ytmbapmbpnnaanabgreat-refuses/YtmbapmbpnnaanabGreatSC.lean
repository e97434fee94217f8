import Derived.Test.YtmbapmbpnnaanabGreatSB
namespace Go.Proofs.YtmbapmbpnnaanabGreat.Ld
open Go.RowKit

/-- The states lie behind the value v. -/
def Sts (w : World) (v : Value) (sts : List St) : Prop := w.ownsRow 0 75 9 v sts.length (flat sts)

theorem Sts.below {w w' : World} {v : Value} {sts : List St} {B : Nat} (h : Sts w v sts) (hb : Below B w w') (hB : w.heap.size ≤ B) : Sts w' v sts := by
  refine ⟨h.1, ?_⟩
  rcases h.2 with h2 | ⟨g, cap, cur, rfl, hg, hh, r⟩
  · exact .inl h2
  · exact .inr ⟨g, cap, cur, rfl, hg, (hb.block g (Nat.lt_of_lt_of_le (Array.getElem?_eq_some_iff.1 hh).1 hB)).trans hh, r⟩
theorem Sts.form {w : World} {v : Value} {sts : List St} (h : Sts w v sts) (h0 : 0 < sts.length) : ∃ g cap, v = .slice (some ⟨g, 0, none⟩) sts.length cap ∧ g < w.heap.size ∧ sts.length ≤ cap := by
  rcases h.2 with ⟨_, h2⟩ | ⟨g, cap, cur, rfl, hg, hh, r⟩
  · omega
  · exact ⟨g, cap, rfl, (Array.getElem?_eq_some_iff.1 hh).1, r.1⟩

theorem flat_get (sts : List St) : ∀ (i j : Nat) (q : St), sts[i]? = some q → j < 9 → (flat sts)[i * 9 + j]? = q.cells[j]? := by
  induction sts with
  | nil => intro i j q h; simp at h
  | cons a sts ih =>
    intro i j q h hj
    have e : flat (a :: sts) = a.cells.toList ++ flat sts := by simp [flat]
    have l9 : a.cells.toList.length = 9 := rfl
    rw [e]
    match i with
    | 0 =>
      simp at h
      subst h
      rw [List.getElem?_append_left (by omega)]
      simp
    | i + 1 =>
      simp at h
      rw [List.getElem?_append_right (by omega), l9, ← ih i j q h hj]
      congr 1
      omega
theorem Sts.cell {w : World} {g n cap : Nat} {sts : List St} (h : Sts w (.slice (some ⟨g, 0, none⟩) n cap) sts) (i j : Nat) (q : St) (v : Value) (hq : sts[i]? = some q) (hj : j < 9) (hv : q.cells[j]? = some v) :
    w.cell? ⟨g, i * 9 + j, none⟩ = some v := by
  have := World.ownsRow.cells h (g := g) rfl (i * 9 + j) v (by rw [flat_get sts i j q hq hj]; exact hv)
  have hadd : (⟨g, 0, none⟩ : Addr).add (i * 9 + j) = ⟨g, i * 9 + j, none⟩ := by unfold Addr.add; split <;> simp_all
  rw [hadd] at this
  exact this

def St.nexts (q : St) : List Nat := [q.nx.getD 0 0, q.nx.getD 1 0, q.nx.getD 2 0, q.nx.getD 3 0]
def St.saids (q : St) : List (List UInt8) := [q.sd.getD 0 [], q.sd.getD 1 [], q.sd.getD 2 [], q.sd.getD 3 []]

/-- The nine cells of the state at i, by letters. -/
theorem Sts.nine {w : World} {g n cap : Nat} {sts : List St} (h : Sts w (.slice (some ⟨g, 0, none⟩) n cap) sts) (i : Nat) (q : St) (hq : sts[i]? = some q) :
    ∃ (S0 S1 S2 S3 S4 : ByteArray) (N0 N1 N2 N3 : Nat), (S0 = ⟨q.en.toArray⟩ ∧ [S1, S2, S3, S4] = q.saids.map (fun l => (⟨l.toArray⟩ : ByteArray)) ∧ [N0, N1, N2, N3] = q.nexts) ∧
      (w.cell? ⟨g, i * 9, none⟩ = some (.string S0) ∧ w.cell? ⟨g, i * 9 + 1, none⟩ = some (.string S1) ∧ w.cell? ⟨g, i * 9 + 2, none⟩ = some (.string S2) ∧ w.cell? ⟨g, i * 9 + 3, none⟩ = some (.string S3) ∧
      w.cell? ⟨g, i * 9 + 4, none⟩ = some (.string S4) ∧ w.cell? ⟨g, i * 9 + 5, none⟩ = some (.int .i64 (N0 : Int)) ∧ w.cell? ⟨g, i * 9 + 6, none⟩ = some (.int .i64 (N1 : Int)) ∧
      w.cell? ⟨g, i * 9 + 7, none⟩ = some (.int .i64 (N2 : Int)) ∧ w.cell? ⟨g, i * 9 + 8, none⟩ = some (.int .i64 (N3 : Int))) :=
  ⟨_, _, _, _, _, _, _, _, _, ⟨rfl, rfl, rfl⟩, h.cell i 0 q _ hq (by omega) rfl, h.cell i 1 q _ hq (by omega) rfl, h.cell i 2 q _ hq (by omega) rfl, h.cell i 3 q _ hq (by omega) rfl, h.cell i 4 q _ hq (by omega) rfl,
    h.cell i 5 q _ hq (by omega) rfl, h.cell i 6 q _ hq (by omega) rfl, h.cell i 7 q _ hq (by omega) rfl, h.cell i 8 q _ hq (by omega) rfl⟩

def numTs (n : Nat) : List Nat → Nat → Option Nat
  | [], m => some m
  | t :: ts, m => if m < t ∨ n ≤ t then none else numTs n ts (if t = m then m + 1 else m)
def numQs (n : Nat) : List St → Nat → Nat → Option Nat
  | [], _, m => some m
  | q :: qs, i, m => if m ≤ i then none else match numTs n q.nexts m with
    | none => none
    | some m' => numQs n qs (i + 1) m'
def isNumB (sts : List St) : Bool := numQs sts.length sts 0 1 == some sts.length

theorem ix36_0 (N0 N1 N2 N3 : Int) (w : World) : (Instr.index 73 (.agg #[.int .i64 N0, .int .i64 N1, .int .i64 N2, .int .i64 N3]) (.int .i64 0)).run Tryz.prog w = .ok (.int .i64 N0) w := by kernel_rfl
theorem ix36_1 (N0 N1 N2 N3 : Int) (w : World) : (Instr.index 73 (.agg #[.int .i64 N0, .int .i64 N1, .int .i64 N2, .int .i64 N3]) (.int .i64 1)).run Tryz.prog w = .ok (.int .i64 N1) w := by kernel_rfl
theorem ix36_2 (N0 N1 N2 N3 : Int) (w : World) : (Instr.index 73 (.agg #[.int .i64 N0, .int .i64 N1, .int .i64 N2, .int .i64 N3]) (.int .i64 2)).run Tryz.prog w = .ok (.int .i64 N2) w := by kernel_rfl
theorem ix36_3 (N0 N1 N2 N3 : Int) (w : World) : (Instr.index 73 (.agg #[.int .i64 N0, .int .i64 N1, .int .i64 N2, .int .i64 N3]) (.int .i64 3)).run Tryz.prog w = .ok (.int .i64 N3) w := by kernel_rfl
theorem ix35_0 (S0 S1 S2 S3 : ByteArray) (w : World) : (Instr.index 72 (.agg #[.string S0, .string S1, .string S2, .string S3]) (.int .i64 0)).run Tryz.prog w = .ok (.string S0) w := by kernel_rfl
theorem ix35_1 (S0 S1 S2 S3 : ByteArray) (w : World) : (Instr.index 72 (.agg #[.string S0, .string S1, .string S2, .string S3]) (.int .i64 1)).run Tryz.prog w = .ok (.string S1) w := by kernel_rfl
theorem ix35_2 (S0 S1 S2 S3 : ByteArray) (w : World) : (Instr.index 72 (.agg #[.string S0, .string S1, .string S2, .string S3]) (.int .i64 2)).run Tryz.prog w = .ok (.string S2) w := by kernel_rfl
theorem ix35_3 (S0 S1 S2 S3 : ByteArray) (w : World) : (Instr.index 72 (.agg #[.string S0, .string S1, .string S2, .string S3]) (.int .i64 3)).run Tryz.prog w = .ok (.string S3) w := by kernel_rfl
theorem ret_bool {a b : Bool} (h : a = b) : Ending.returned (.bool a) = .returned (.bool b) := by rw [h]
theorem beq_cast (m n : Nat) : ((m : Int) == (n : Int)) = decide (m = n) := by
  rw [Bool.eq_iff_iff]
  simp
  omega
theorem num_none {n i m m' t : Nat} {sts qs : List St} {q : St} {l r : List Nat} (hn : n = sts.length) (he : numQs n (q :: qs) i m = numQs n sts 0 1) (hi : ¬ m ≤ i) (hq : q.nexts = l) (ht : numTs n (t :: r) m' = numTs n l m) (h : m' < t ∨ n ≤ t) : isNumB sts = false := by
  have e : numTs n (t :: r) m' = none := by simp only [numTs]; rw [if_pos h]
  rw [e] at ht
  unfold isNumB
  rw [← hn, ← he]
  simp only [numQs, if_neg hi, hq, ← ht]
  rfl
theorem num_next {n i m m' : Nat} {sts qs : List St} {q : St} {l : List Nat} (he : numQs n (q :: qs) i m = numQs n sts 0 1) (hi : ¬ m ≤ i) (hq : q.nexts = l) (ht : numTs n [] m' = numTs n l m) : numQs n qs (i + 1) m' = numQs n sts 0 1 := by
  rw [← he]
  simp only [numQs, if_neg hi, hq, ← ht]
  rfl
theorem num_step {n m' t : Nat} {l r : List Nat} {m : Nat} (ht : numTs n (t :: r) m' = numTs n l m) (h1 : ¬ m' < t) (h2 : ¬ n ≤ t) : numTs n r (if t = m' then m' + 1 else m') = numTs n l m := by
  rw [← ht]
  simp only [numTs]
  rw [if_neg (show ¬ (m' < t ∨ n ≤ t) by omega)]

set_option maxHeartbeats 2000000 in
set_option maxRecDepth 100000 in
theorem isNumbered_any (v : Value) (sts : List St) (w : World) (hst : Sts w v sts) (h0 : 0 < sts.length) (hl : sts.length ≤ 200) :
    Calls Tryz.prog 39 #[v] w fun e w' => e = .returned (.bool (isNumB sts)) ∧ Below w.heap.size w w' := by
  obtain ⟨g, cap, rfl, hg, hcap⟩ := hst.form h0
  obtain ⟨n, hn⟩ : ∃ n, n = sts.length := ⟨_, rfl⟩
  rw [← hn] at h0 hl hcap hst ⊢
  have HNN : Hid (n = sts.length) := hn
  clear hn
  go_enter Tryz.func39, Tryz.ntmps39
  go_wp2
  go_loopw [3, 10] (fun mt ii wr => ∃ (i m : Nat), i ≤ n ∧ m ≤ 4 * i + 1 ∧ ii = .int .i64 (i : Int) ∧ mt = .int .i64 (m : Int) ∧ numQs n (sts.drop i) i m = numQs n sts 0 1 ∧ Below w.heap.size w wr) (fun _ ii _ => n - (intOf ii).toNat)
  case atStart => exact ⟨0, 1, by omega, by omega, rfl, rfl, rfl, Below.refl _ _⟩
  case round =>
    obtain ⟨i, m, hi, hm, rfl, rfl, hN, hb⟩ := hrel
    have HN : Hid (numQs n (sts.drop i) i m = numQs n sts 0 1) := hN
    clear hN
    have hsz := hb.size
    by_cases hlt : i < n
    · obtain ⟨q, hq⟩ : ∃ q, sts[i]? = some q := ⟨sts[i]'(by have := HNN.out; omega), List.getElem?_eq_getElem _⟩
      have hst2 := hst.below hb (Nat.le_refl _)
      obtain ⟨S0, S1, S2, S3, S4, N0, N1, N2, N3, hS, a0, a1, a2, a3, a4, a5, a6, a7, a8⟩ := hst2.nine i q hq
      have hdr : sts.drop i = q :: sts.drop (i + 1) := by
        have h := HNN.out
        rw [List.drop_eq_getElem_cons (by omega)]
        rw [List.getElem?_eq_getElem (by omega)] at hq
        rw [Option.some.inj hq]
      by_cases hmi : m ≤ i
      · have HE : Hid (isNumB sts = false) := by
          show isNumB sts = false
          unfold isNumB
          rw [← HNN.out, ← HN.out, hdr]
          simp [numQs, hmi]
        clear hdr hS hq
        have hmi2 : (m : Int) ≤ (i : Int) := by omega
        go_wp2
        go_ret
        exact ⟨by rw [HE.out]; rfl, hb.alloc (by omega) _⟩
      · have hmi2 : ¬ (m : Int) ≤ (i : Int) := by omega
        have HS : Hid (q.nexts = [N0, N1, N2, N3]) := hS.2.2.symm
        have HE : Hid (numQs n (q :: sts.drop (i + 1)) i m = numQs n sts 0 1) := by
          show numQs n (q :: sts.drop (i + 1)) i m = _
          rw [← hdr]; exact HN.out
        clear hdr hS hq HN
        go_wp2
        have ix0 := ix36_0 N0 N1 N2 N3
        have ix1 := ix36_1 N0 N1 N2 N3
        have ix2 := ix36_2 N0 N1 N2 N3
        have ix3 := ix36_3 N0 N1 N2 N3
        go_loopw [3, 20] (fun mt jj wx => ∃ (j m' : Nat), j ≤ 4 ∧ m' ≤ m + j ∧ jj = .int .i64 (j : Int) ∧ mt = .int .i64 (m' : Int) ∧ numTs n ([N0, N1, N2, N3].drop j) m' = numTs n [N0, N1, N2, N3] m ∧ Below w.heap.size w wx) (fun _ jj _ => 4 - (intOf jj).toNat)
        case atStart => exact ⟨0, m, by omega, by omega, rfl, rfl, rfl, hb.alloc (by omega) _⟩
        case round =>
          obtain ⟨j, m', hj, hm', rfl, rfl, hT, hb2⟩ := hrel
          have HT : Hid (numTs n ([N0, N1, N2, N3].drop j) m' = numTs n [N0, N1, N2, N3] m) := hT
          clear hT
          match j, hj with
          | 0, _ =>
            by_cases h1 : m' < N0
            · have HF : Hid (isNumB sts = false) := num_none HNN.out HE.out hmi HS.out HT.out (Or.inl h1)
              have h1i : (m' : Int) < (N0 : Int) := by omega
              go_wp2
              go_ret
              exact ⟨by rw [HF.out]; rfl, hb2⟩
            · have h1i : ¬ (m' : Int) < (N0 : Int) := by omega
              by_cases h2 : n ≤ N0
              · have HF : Hid (isNumB sts = false) := num_none HNN.out HE.out hmi HS.out HT.out (Or.inr h2)
                have h2i : (n : Int) ≤ (N0 : Int) := by omega
                go_wp2
                go_ret
                exact ⟨by rw [HF.out]; rfl, hb2⟩
              · have h2i : ¬ (n : Int) ≤ (N0 : Int) := by omega
                have HT2 : Hid _ := num_step HT.out h1 h2
                by_cases h3 : ((N0 : Int) == (m' : Int)) = true
                · have h4 : N0 = m' := by simp at h3; omega
                  have HT3 : Hid (numTs n ([N0, N1, N2, N3].drop 1) (m' + 1) = numTs n [N0, N1, N2, N3] m) := by have := HT2.out; rw [if_pos h4] at this; exact this
                  clear HT2 HT h4
                  go_wp2
                  go_roundw
                  case rel => exact ⟨1, m' + 1, by omega, by omega, rfl, by go_num, HT3.out, hb2⟩
                  case measure => simp [intOf]
                · have h3f : ((N0 : Int) == (m' : Int)) = false := by simpa using h3
                  have h4 : ¬ N0 = m' := fun e => by rw [e] at h3; simp at h3
                  have HT3 : Hid (numTs n ([N0, N1, N2, N3].drop 1) m' = numTs n [N0, N1, N2, N3] m) := by have := HT2.out; rw [if_neg h4] at this; exact this
                  clear HT2 HT h4 h3
                  go_wp2
                  go_roundw
                  case rel => exact ⟨1, m', by omega, by omega, rfl, rfl, HT3.out, hb2⟩
                  case measure => simp [intOf]
          | 1, _ =>
            by_cases h1 : m' < N1
            · have HF : Hid (isNumB sts = false) := num_none HNN.out HE.out hmi HS.out HT.out (Or.inl h1)
              have h1i : (m' : Int) < (N1 : Int) := by omega
              go_wp2
              go_ret
              exact ⟨by rw [HF.out]; rfl, hb2⟩
            · have h1i : ¬ (m' : Int) < (N1 : Int) := by omega
              by_cases h2 : n ≤ N1
              · have HF : Hid (isNumB sts = false) := num_none HNN.out HE.out hmi HS.out HT.out (Or.inr h2)
                have h2i : (n : Int) ≤ (N1 : Int) := by omega
                go_wp2
                go_ret
                exact ⟨by rw [HF.out]; rfl, hb2⟩
              · have h2i : ¬ (n : Int) ≤ (N1 : Int) := by omega
                have HT2 : Hid _ := num_step HT.out h1 h2
                by_cases h3 : ((N1 : Int) == (m' : Int)) = true
                · have h4 : N1 = m' := by simp at h3; omega
                  have HT3 : Hid (numTs n ([N0, N1, N2, N3].drop 2) (m' + 1) = numTs n [N0, N1, N2, N3] m) := by have := HT2.out; rw [if_pos h4] at this; exact this
                  clear HT2 HT h4
                  go_wp2
                  go_roundw
                  case rel => exact ⟨2, m' + 1, by omega, by omega, rfl, by go_num, HT3.out, hb2⟩
                  case measure => simp [intOf]
                · have h3f : ((N1 : Int) == (m' : Int)) = false := by simpa using h3
                  have h4 : ¬ N1 = m' := fun e => by rw [e] at h3; simp at h3
                  have HT3 : Hid (numTs n ([N0, N1, N2, N3].drop 2) m' = numTs n [N0, N1, N2, N3] m) := by have := HT2.out; rw [if_neg h4] at this; exact this
                  clear HT2 HT h4 h3
                  go_wp2
                  go_roundw
                  case rel => exact ⟨2, m', by omega, by omega, rfl, rfl, HT3.out, hb2⟩
                  case measure => simp [intOf]
          | 2, _ =>
            by_cases h1 : m' < N2
            · have HF : Hid (isNumB sts = false) := num_none HNN.out HE.out hmi HS.out HT.out (Or.inl h1)
              have h1i : (m' : Int) < (N2 : Int) := by omega
              go_wp2
              go_ret
              exact ⟨by rw [HF.out]; rfl, hb2⟩
            · have h1i : ¬ (m' : Int) < (N2 : Int) := by omega
              by_cases h2 : n ≤ N2
              · have HF : Hid (isNumB sts = false) := num_none HNN.out HE.out hmi HS.out HT.out (Or.inr h2)
                have h2i : (n : Int) ≤ (N2 : Int) := by omega
                go_wp2
                go_ret
                exact ⟨by rw [HF.out]; rfl, hb2⟩
              · have h2i : ¬ (n : Int) ≤ (N2 : Int) := by omega
                have HT2 : Hid _ := num_step HT.out h1 h2
                by_cases h3 : ((N2 : Int) == (m' : Int)) = true
                · have h4 : N2 = m' := by simp at h3; omega
                  have HT3 : Hid (numTs n ([N0, N1, N2, N3].drop 3) (m' + 1) = numTs n [N0, N1, N2, N3] m) := by have := HT2.out; rw [if_pos h4] at this; exact this
                  clear HT2 HT h4
                  go_wp2
                  go_roundw
                  case rel => exact ⟨3, m' + 1, by omega, by omega, rfl, by go_num, HT3.out, hb2⟩
                  case measure => simp [intOf]
                · have h3f : ((N2 : Int) == (m' : Int)) = false := by simpa using h3
                  have h4 : ¬ N2 = m' := fun e => by rw [e] at h3; simp at h3
                  have HT3 : Hid (numTs n ([N0, N1, N2, N3].drop 3) m' = numTs n [N0, N1, N2, N3] m) := by have := HT2.out; rw [if_neg h4] at this; exact this
                  clear HT2 HT h4 h3
                  go_wp2
                  go_roundw
                  case rel => exact ⟨3, m', by omega, by omega, rfl, rfl, HT3.out, hb2⟩
                  case measure => simp [intOf]
          | 3, _ =>
            by_cases h1 : m' < N3
            · have HF : Hid (isNumB sts = false) := num_none HNN.out HE.out hmi HS.out HT.out (Or.inl h1)
              have h1i : (m' : Int) < (N3 : Int) := by omega
              go_wp2
              go_ret
              exact ⟨by rw [HF.out]; rfl, hb2⟩
            · have h1i : ¬ (m' : Int) < (N3 : Int) := by omega
              by_cases h2 : n ≤ N3
              · have HF : Hid (isNumB sts = false) := num_none HNN.out HE.out hmi HS.out HT.out (Or.inr h2)
                have h2i : (n : Int) ≤ (N3 : Int) := by omega
                go_wp2
                go_ret
                exact ⟨by rw [HF.out]; rfl, hb2⟩
              · have h2i : ¬ (n : Int) ≤ (N3 : Int) := by omega
                have HT2 : Hid _ := num_step HT.out h1 h2
                by_cases h3 : ((N3 : Int) == (m' : Int)) = true
                · have h4 : N3 = m' := by simp at h3; omega
                  have HT3 : Hid (numTs n ([N0, N1, N2, N3].drop 4) (m' + 1) = numTs n [N0, N1, N2, N3] m) := by have := HT2.out; rw [if_pos h4] at this; exact this
                  clear HT2 HT h4
                  go_wp2
                  go_roundw
                  case rel => exact ⟨4, m' + 1, by omega, by omega, rfl, by go_num, HT3.out, hb2⟩
                  case measure => simp [intOf]
                · have h3f : ((N3 : Int) == (m' : Int)) = false := by simpa using h3
                  have h4 : ¬ N3 = m' := fun e => by rw [e] at h3; simp at h3
                  have HT3 : Hid (numTs n ([N0, N1, N2, N3].drop 4) m' = numTs n [N0, N1, N2, N3] m) := by have := HT2.out; rw [if_neg h4] at this; exact this
                  clear HT2 HT h4 h3
                  go_wp2
                  go_roundw
                  case rel => exact ⟨4, m', by omega, by omega, rfl, rfl, HT3.out, hb2⟩
                  case measure => simp [intOf]
          | 4, _ =>
            have HT3 : Hid (numQs n (sts.drop (i + 1)) (i + 1) m' = numQs n sts 0 1) := num_next HE.out hmi HS.out HT.out
            go_wp2
            go_roundw
            case rel => exact ⟨i + 1, m', by omega, by omega, by go_num, rfl, HT3.out, hb2⟩
            case measure => simp [intOf]; omega
    · have hin : i = n := by omega
      have HE : Hid (isNumB sts = decide (m = n)) := by
        show isNumB sts = _
        unfold isNumB
        rw [← HNN.out, ← HN.out, hin, List.drop_eq_nil_of_le (by rw [HNN.out]; exact Nat.le_refl _)]
        simp [numQs]
        rfl
      clear hin
      go_wp2
      go_ret
      refine ⟨?_, hb⟩
      rw [HE.out]
      exact ret_bool (beq_cast m n)
end Go.Proofs.YtmbapmbpnnaanabGreat.Ld
namespace Go.Proofs.YtmbapmbpnnaanabGreat.Ld
open Go.RowKit

def letBit (c : UInt8) : Nat := if c = 97 then 1 else if c = 98 then 2 else if c = 99 then 4 else if c = 100 then 8 else if c = 65 then 16 else if c = 66 then 32 else if c = 67 then 64 else if c = 68 then 128 else 0
def bgnM (s : ByteArray) : Nat := if h : 0 < s.size then letBit (s[0]'h) else 256
theorem letBit_lt (c : UInt8) : letBit c < 512 := by unfold letBit; repeat' split
                                                     all_goals omega
theorem bgnM_lt (s : ByteArray) : bgnM s < 512 := by
  unfold bgnM
  split
  · exact letBit_lt _
  · omega

theorem beginning_empty (s : ByteArray) (w : World) (h0 : s.size = 0) : Calls Tryz.prog 109 #[.string s] w fun e w' => e = .returned (.int .i64 (bgnM s : Int)) ∧ ∃ n, w' = w.drewN n := by
  have hs : s.toList.isEmpty = true := by rw [empty_iff]; simpa using h0
  have e : bgnM s = 256 := by unfold bgnM; rw [dif_neg (by omega)]
  rw [e]
  go_enter Tryz.func109, Tryz.ntmps109
  go_wp2
  go_ret
  exact ⟨rfl, 0, rfl⟩

theorem drewN_more {w wr : World} {k : Nat} (h : ∃ n, wr = w.drewN n) : ∃ n, wr.drewN k = w.drewN n := by
  obtain ⟨n, rfl⟩ := h
  exact ⟨n + k, by simp⟩

set_option maxHeartbeats 1000000 in
theorem beginning_some (s : ByteArray) (w : World) (hp : 0 < s.size) : Calls Tryz.prog 109 #[.string s] w fun e w' => e = .returned (.int .i64 (bgnM s : Int)) ∧ ∃ n, w' = w.drewN n := by
  have hs : s.toList.isEmpty = false := by rw [empty_iff]; exact decide_eq_false (by omega)
  have e : bgnM s = letBit s[0] := by unfold bgnM; rw [dif_pos hp]
  rw [e]
  have hpi : (0 : Int) < (s.size : Int) := by omega
  obtain ⟨c, hc⟩ : ∃ c, c = s[0] := ⟨_, rfl⟩
  rw [← hc]
  have hcn : ((s[0]'hp).toNat : Int) = (c.toNat : Int) := by rw [hc]
  clear hc e
  go_enter Tryz.func109, Tryz.ntmps109
  go_wp2
  go_loopw [3, 4] (fun bt ii wr => ∃ (i b : Nat), i ≤ 8 ∧ b = 2 ^ i ∧ ii = .int .i64 (i : Int) ∧ bt = .int .i64 (b : Int) ∧ (∀ j, j < i → c.toNat ≠ [97, 98, 99, 100, 65, 66, 67, 68].getD j 0) ∧ ∃ n, wr = w.drewN n) (fun _ ii _ => 8 - (intOf ii).toNat)
  case atStart => exact ⟨0, 1, by omega, rfl, rfl, rfl, fun j hj => by omega, 0, rfl⟩
  case round =>
    obtain ⟨i, b, hi, hb, rfl, rfl, hj, hw⟩ := hrel
    have HW : Hid (∃ n, wr = w.drewN n) := hw
    clear hw
    have HJ : Hid (∀ j, j < i → c.toNat ≠ [97, 98, 99, 100, 65, 66, 67, 68].getD j 0) := hj
    clear hj
    match i, hi with
    | 0, _ =>
      obtain rfl : b = 1 := hb
      by_cases h : ((97 : Int) == (c.toNat : Int)) = true
      · have hl : letBit c = 1 := by
          have : c = 97 := UInt8.toNat_inj.1 (by simp at h; simp; omega)
          rw [this]; rfl
        have HL : Hid _ := hl
        clear hl
        have h' : ((((⟨#[97, 98, 99, 100, 65, 66, 67, 68]⟩ : ByteArray)[0]'(by decide)).toNat : Int) == (c.toNat : Int)) = true := h
        go_wp2
        go_quiet (fail)
        go_wp2
        go_ret
        exact ⟨by rw [HL.out]; rfl, drewN_more HW.out⟩
      · have hf : ((97 : Int) == (c.toNat : Int)) = false := by simpa using h
        clear h
        have HK : Hid (∀ j, j < 1 → c.toNat ≠ [97, 98, 99, 100, 65, 66, 67, 68].getD j 0) := by
          show ∀ j, j < 1 → c.toNat ≠ [97, 98, 99, 100, 65, 66, 67, 68].getD j 0
          intro j hj
          rcases Nat.lt_or_ge j 0 with h2 | h2
          · exact HJ.out j h2
          · obtain rfl : j = 0 := by omega
            intro e
            rw [e] at hf
            exact absurd hf (by decide)
        clear HJ
        have h' : ((((⟨#[97, 98, 99, 100, 65, 66, 67, 68]⟩ : ByteArray)[0]'(by decide)).toNat : Int) == (c.toNat : Int)) = false := hf
        go_wp2
        go_quiet (fail)
        go_wp2
        go_roundw
        case rel => exact ⟨1, 2, by omega, rfl, rfl, rfl, HK.out, drewN_more HW.out⟩
        case measure => simp [intOf]
    | 1, _ =>
      obtain rfl : b = 2 := hb
      by_cases h : ((98 : Int) == (c.toNat : Int)) = true
      · have hl : letBit c = 2 := by
          have : c = 98 := UInt8.toNat_inj.1 (by simp at h; simp; omega)
          rw [this]; rfl
        have HL : Hid _ := hl
        clear hl
        have h' : ((((⟨#[97, 98, 99, 100, 65, 66, 67, 68]⟩ : ByteArray)[1]'(by decide)).toNat : Int) == (c.toNat : Int)) = true := h
        go_wp2
        go_quiet (fail)
        go_wp2
        go_ret
        exact ⟨by rw [HL.out]; rfl, drewN_more HW.out⟩
      · have hf : ((98 : Int) == (c.toNat : Int)) = false := by simpa using h
        clear h
        have HK : Hid (∀ j, j < 2 → c.toNat ≠ [97, 98, 99, 100, 65, 66, 67, 68].getD j 0) := by
          show ∀ j, j < 2 → c.toNat ≠ [97, 98, 99, 100, 65, 66, 67, 68].getD j 0
          intro j hj
          rcases Nat.lt_or_ge j 1 with h2 | h2
          · exact HJ.out j h2
          · obtain rfl : j = 1 := by omega
            intro e
            rw [e] at hf
            exact absurd hf (by decide)
        clear HJ
        have h' : ((((⟨#[97, 98, 99, 100, 65, 66, 67, 68]⟩ : ByteArray)[1]'(by decide)).toNat : Int) == (c.toNat : Int)) = false := hf
        go_wp2
        go_quiet (fail)
        go_wp2
        go_roundw
        case rel => exact ⟨2, 4, by omega, rfl, rfl, rfl, HK.out, drewN_more HW.out⟩
        case measure => simp [intOf]
    | 2, _ =>
      obtain rfl : b = 4 := hb
      by_cases h : ((99 : Int) == (c.toNat : Int)) = true
      · have hl : letBit c = 4 := by
          have : c = 99 := UInt8.toNat_inj.1 (by simp at h; simp; omega)
          rw [this]; rfl
        have HL : Hid _ := hl
        clear hl
        have h' : ((((⟨#[97, 98, 99, 100, 65, 66, 67, 68]⟩ : ByteArray)[2]'(by decide)).toNat : Int) == (c.toNat : Int)) = true := h
        go_wp2
        go_quiet (fail)
        go_wp2
        go_ret
        exact ⟨by rw [HL.out]; rfl, drewN_more HW.out⟩
      · have hf : ((99 : Int) == (c.toNat : Int)) = false := by simpa using h
        clear h
        have HK : Hid (∀ j, j < 3 → c.toNat ≠ [97, 98, 99, 100, 65, 66, 67, 68].getD j 0) := by
          show ∀ j, j < 3 → c.toNat ≠ [97, 98, 99, 100, 65, 66, 67, 68].getD j 0
          intro j hj
          rcases Nat.lt_or_ge j 2 with h2 | h2
          · exact HJ.out j h2
          · obtain rfl : j = 2 := by omega
            intro e
            rw [e] at hf
            exact absurd hf (by decide)
        clear HJ
        have h' : ((((⟨#[97, 98, 99, 100, 65, 66, 67, 68]⟩ : ByteArray)[2]'(by decide)).toNat : Int) == (c.toNat : Int)) = false := hf
        go_wp2
        go_quiet (fail)
        go_wp2
        go_roundw
        case rel => exact ⟨3, 8, by omega, rfl, rfl, rfl, HK.out, drewN_more HW.out⟩
        case measure => simp [intOf]
    | 3, _ =>
      obtain rfl : b = 8 := hb
      by_cases h : ((100 : Int) == (c.toNat : Int)) = true
      · have hl : letBit c = 8 := by
          have : c = 100 := UInt8.toNat_inj.1 (by simp at h; simp; omega)
          rw [this]; rfl
        have HL : Hid _ := hl
        clear hl
        have h' : ((((⟨#[97, 98, 99, 100, 65, 66, 67, 68]⟩ : ByteArray)[3]'(by decide)).toNat : Int) == (c.toNat : Int)) = true := h
        go_wp2
        go_quiet (fail)
        go_wp2
        go_ret
        exact ⟨by rw [HL.out]; rfl, drewN_more HW.out⟩
      · have hf : ((100 : Int) == (c.toNat : Int)) = false := by simpa using h
        clear h
        have HK : Hid (∀ j, j < 4 → c.toNat ≠ [97, 98, 99, 100, 65, 66, 67, 68].getD j 0) := by
          show ∀ j, j < 4 → c.toNat ≠ [97, 98, 99, 100, 65, 66, 67, 68].getD j 0
          intro j hj
          rcases Nat.lt_or_ge j 3 with h2 | h2
          · exact HJ.out j h2
          · obtain rfl : j = 3 := by omega
            intro e
            rw [e] at hf
            exact absurd hf (by decide)
        clear HJ
        have h' : ((((⟨#[97, 98, 99, 100, 65, 66, 67, 68]⟩ : ByteArray)[3]'(by decide)).toNat : Int) == (c.toNat : Int)) = false := hf
        go_wp2
        go_quiet (fail)
        go_wp2
        go_roundw
        case rel => exact ⟨4, 16, by omega, rfl, rfl, rfl, HK.out, drewN_more HW.out⟩
        case measure => simp [intOf]
    | 4, _ =>
      obtain rfl : b = 16 := hb
      by_cases h : ((65 : Int) == (c.toNat : Int)) = true
      · have hl : letBit c = 16 := by
          have : c = 65 := UInt8.toNat_inj.1 (by simp at h; simp; omega)
          rw [this]; rfl
        have HL : Hid _ := hl
        clear hl
        have h' : ((((⟨#[97, 98, 99, 100, 65, 66, 67, 68]⟩ : ByteArray)[4]'(by decide)).toNat : Int) == (c.toNat : Int)) = true := h
        go_wp2
        go_quiet (fail)
        go_wp2
        go_ret
        exact ⟨by rw [HL.out]; rfl, drewN_more HW.out⟩
      · have hf : ((65 : Int) == (c.toNat : Int)) = false := by simpa using h
        clear h
        have HK : Hid (∀ j, j < 5 → c.toNat ≠ [97, 98, 99, 100, 65, 66, 67, 68].getD j 0) := by
          show ∀ j, j < 5 → c.toNat ≠ [97, 98, 99, 100, 65, 66, 67, 68].getD j 0
          intro j hj
          rcases Nat.lt_or_ge j 4 with h2 | h2
          · exact HJ.out j h2
          · obtain rfl : j = 4 := by omega
            intro e
            rw [e] at hf
            exact absurd hf (by decide)
        clear HJ
        have h' : ((((⟨#[97, 98, 99, 100, 65, 66, 67, 68]⟩ : ByteArray)[4]'(by decide)).toNat : Int) == (c.toNat : Int)) = false := hf
        go_wp2
        go_quiet (fail)
        go_wp2
        go_roundw
        case rel => exact ⟨5, 32, by omega, rfl, rfl, rfl, HK.out, drewN_more HW.out⟩
        case measure => simp [intOf]
    | 5, _ =>
      obtain rfl : b = 32 := hb
      by_cases h : ((66 : Int) == (c.toNat : Int)) = true
      · have hl : letBit c = 32 := by
          have : c = 66 := UInt8.toNat_inj.1 (by simp at h; simp; omega)
          rw [this]; rfl
        have HL : Hid _ := hl
        clear hl
        have h' : ((((⟨#[97, 98, 99, 100, 65, 66, 67, 68]⟩ : ByteArray)[5]'(by decide)).toNat : Int) == (c.toNat : Int)) = true := h
        go_wp2
        go_quiet (fail)
        go_wp2
        go_ret
        exact ⟨by rw [HL.out]; rfl, drewN_more HW.out⟩
      · have hf : ((66 : Int) == (c.toNat : Int)) = false := by simpa using h
        clear h
        have HK : Hid (∀ j, j < 6 → c.toNat ≠ [97, 98, 99, 100, 65, 66, 67, 68].getD j 0) := by
          show ∀ j, j < 6 → c.toNat ≠ [97, 98, 99, 100, 65, 66, 67, 68].getD j 0
          intro j hj
          rcases Nat.lt_or_ge j 5 with h2 | h2
          · exact HJ.out j h2
          · obtain rfl : j = 5 := by omega
            intro e
            rw [e] at hf
            exact absurd hf (by decide)
        clear HJ
        have h' : ((((⟨#[97, 98, 99, 100, 65, 66, 67, 68]⟩ : ByteArray)[5]'(by decide)).toNat : Int) == (c.toNat : Int)) = false := hf
        go_wp2
        go_quiet (fail)
        go_wp2
        go_roundw
        case rel => exact ⟨6, 64, by omega, rfl, rfl, rfl, HK.out, drewN_more HW.out⟩
        case measure => simp [intOf]
    | 6, _ =>
      obtain rfl : b = 64 := hb
      by_cases h : ((67 : Int) == (c.toNat : Int)) = true
      · have hl : letBit c = 64 := by
          have : c = 67 := UInt8.toNat_inj.1 (by simp at h; simp; omega)
          rw [this]; rfl
        have HL : Hid _ := hl
        clear hl
        have h' : ((((⟨#[97, 98, 99, 100, 65, 66, 67, 68]⟩ : ByteArray)[6]'(by decide)).toNat : Int) == (c.toNat : Int)) = true := h
        go_wp2
        go_quiet (fail)
        go_wp2
        go_ret
        exact ⟨by rw [HL.out]; rfl, drewN_more HW.out⟩
      · have hf : ((67 : Int) == (c.toNat : Int)) = false := by simpa using h
        clear h
        have HK : Hid (∀ j, j < 7 → c.toNat ≠ [97, 98, 99, 100, 65, 66, 67, 68].getD j 0) := by
          show ∀ j, j < 7 → c.toNat ≠ [97, 98, 99, 100, 65, 66, 67, 68].getD j 0
          intro j hj
          rcases Nat.lt_or_ge j 6 with h2 | h2
          · exact HJ.out j h2
          · obtain rfl : j = 6 := by omega
            intro e
            rw [e] at hf
            exact absurd hf (by decide)
        clear HJ
        have h' : ((((⟨#[97, 98, 99, 100, 65, 66, 67, 68]⟩ : ByteArray)[6]'(by decide)).toNat : Int) == (c.toNat : Int)) = false := hf
        go_wp2
        go_quiet (fail)
        go_wp2
        go_roundw
        case rel => exact ⟨7, 128, by omega, rfl, rfl, rfl, HK.out, drewN_more HW.out⟩
        case measure => simp [intOf]
    | 7, _ =>
      obtain rfl : b = 128 := hb
      by_cases h : ((68 : Int) == (c.toNat : Int)) = true
      · have hl : letBit c = 128 := by
          have : c = 68 := UInt8.toNat_inj.1 (by simp at h; simp; omega)
          rw [this]; rfl
        have HL : Hid _ := hl
        clear hl
        have h' : ((((⟨#[97, 98, 99, 100, 65, 66, 67, 68]⟩ : ByteArray)[7]'(by decide)).toNat : Int) == (c.toNat : Int)) = true := h
        go_wp2
        go_quiet (fail)
        go_wp2
        go_ret
        exact ⟨by rw [HL.out]; rfl, drewN_more HW.out⟩
      · have hf : ((68 : Int) == (c.toNat : Int)) = false := by simpa using h
        clear h
        have HK : Hid (∀ j, j < 8 → c.toNat ≠ [97, 98, 99, 100, 65, 66, 67, 68].getD j 0) := by
          show ∀ j, j < 8 → c.toNat ≠ [97, 98, 99, 100, 65, 66, 67, 68].getD j 0
          intro j hj
          rcases Nat.lt_or_ge j 7 with h2 | h2
          · exact HJ.out j h2
          · obtain rfl : j = 7 := by omega
            intro e
            rw [e] at hf
            exact absurd hf (by decide)
        clear HJ
        have h' : ((((⟨#[97, 98, 99, 100, 65, 66, 67, 68]⟩ : ByteArray)[7]'(by decide)).toNat : Int) == (c.toNat : Int)) = false := hf
        go_wp2
        go_quiet (fail)
        go_wp2
        go_roundw
        case rel => exact ⟨8, 256, by omega, rfl, rfl, rfl, HK.out, drewN_more HW.out⟩
        case measure => simp [intOf]
    | 8, _ =>
      have hl : letBit c = 0 := by
        have hne : ∀ (d : UInt8) (j : Nat), j < 8 → [97, 98, 99, 100, 65, 66, 67, 68].getD j 0 = d.toNat → c ≠ d := fun d j h1 h2 e => HJ.out j h1 (by rw [h2, e])
        unfold letBit
        rw [if_neg (hne 97 0 (by omega) rfl), if_neg (hne 98 1 (by omega) rfl), if_neg (hne 99 2 (by omega) rfl), if_neg (hne 100 3 (by omega) rfl), if_neg (hne 65 4 (by omega) rfl), if_neg (hne 66 5 (by omega) rfl), if_neg (hne 67 6 (by omega) rfl), if_neg (hne 68 7 (by omega) rfl)]
      have HL : Hid _ := hl
      clear hl
      go_wp2
      go_ret
      exact ⟨by rw [HL.out]; rfl, HW.out⟩

theorem beginning_any (s : ByteArray) (w : World) : Calls Tryz.prog 109 #[.string s] w fun e w' => e = .returned (.int .i64 (bgnM s : Int)) ∧ ∃ n, w' = w.drewN n := by
  rcases Nat.eq_zero_or_pos s.size with h | h
  · exact beginning_empty s w h
  · exact beginning_some s w h
end Go.Proofs.YtmbapmbpnnaanabGreat.Ld
