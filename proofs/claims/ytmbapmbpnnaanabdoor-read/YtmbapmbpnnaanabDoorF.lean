import Derived.Test.YtmbapmbpnnaanabDoorE
namespace Go.Proofs.YtmbapmbpnnaanabDoor
open Go.RowKit
attribute [local go_sem ↓] Go.wp_at_zero Go.wp_at_succ

theorem Tryd.info38 : (Tryd.prog.info? 38).map (fun i => (i.zero, i.size, i.bytes)) = some (some (.agg zero9), 9, 112) := by kernel_rfl

def flat (sts : List St) : List Value := sts.flatMap fun q => q.cells.toList
theorem flat_snoc (sts : List St) (q : St) : flat (sts ++ [q]) = flat sts ++ q.cells.toList := by simp [flat]

/-- The states that a text is, from k on: f more lines at the most. -/
def readM (s : ByteArray) : Nat → Nat → List St → Option (List St)
  | 0, k, acc => if k < s.size then none else some acc
  | f + 1, k, acc => if k < s.size then (if acc.length = 200 then none else if (lineM s k false).2.2 = true then none else readM s f (lineM s k false).2.1 (acc ++ [(lineM s k false).1])) else some acc

theorem signM_ge (s : ByteArray) (c : UInt8) (k : Nat) (bad : Bool) : k ≤ (signM s c k bad).1 := by
  unfold signM
  split <;> simp
theorem signM_ok (s : ByteArray) (c : UInt8) (k : Nat) (bad : Bool) (h : (signM s c k bad).2 = false) : (signM s c k bad).1 = k + 1 ∧ s.data.toList[k]? = some c ∧ bad = false := by
  unfold signM at h ⊢
  split at h
  · rename_i hc
    rw [if_pos hc]
    unfold seesB at hc
    rw [Bool.and_eq_true] at hc
    exact ⟨rfl, of_decide_eq_true hc.2, h⟩
  · cases h
theorem wordM_ge (s : ByteArray) (k : Nat) (bad : Bool) : k ≤ (wordM s k bad).2.1 := by
  unfold wordM
  split <;> simp
theorem lparts_ge (s : ByteArray) (k : Nat) (bad : Bool) : ∀ n, k ≤ (lparts s k bad n).2.1
  | 0 => wordM_ge _ _ _
  | n + 1 => by
    have h1 := lparts_ge s k bad n
    obtain ⟨x, hx⟩ : ∃ x, x = lparts s k bad n := ⟨_, rfl⟩
    rw [← hx] at h1
    simp only [lparts, ← hx, lstep]
    have h2 := signM_ge s 32 x.2.1 x.2.2
    have h3 := wordM_ge s (signM s 32 x.2.1 x.2.2).1 (signM s 32 x.2.1 x.2.2).2
    have h4 := signM_ge s 58 (wordM s (signM s 32 x.2.1 x.2.2).1 (signM s 32 x.2.1 x.2.2).2).2.1 ((signM s 32 x.2.1 x.2.2).2 || (wordM s (signM s 32 x.2.1 x.2.2).1 (signM s 32 x.2.1 x.2.2).2).2.2)
    omega
theorem lineM_gt (s : ByteArray) (k : Nat) (bad : Bool) (h : (lineM s k bad).2.2 = false) : k < (lineM s k bad).2.1 := by
  have h1 := lparts_ge s k bad 4
  have h2 := signM_ok s 10 _ _ h
  show k < (signM s 10 _ _).1
  rw [h2.1]
  omega
theorem lineM_le (s : ByteArray) (k : Nat) (bad : Bool) (hk : k ≤ s.size) : (lineM s k bad).2.1 ≤ s.size := signM_le s 10 _ _ (lparts_le s k bad hk 4)

theorem own_form {w : World} {base : Nat} {e : TypeId} {size : Nat} {v : Value} {n : Nat} {xs : List Value} (h : w.ownsRow base e size v n xs) : ∃ a cap, v = .slice a n cap := by
  rcases h.2 with ⟨rfl, rfl⟩ | ⟨g, cap, cur, rfl, _⟩
  · exact ⟨_, _, rfl⟩
  · exact ⟨_, _, rfl⟩
theorem own_base {w : World} {base base' : Nat} {e : TypeId} {size : Nat} {v : Value} {n : Nat} {xs : List Value} (h : w.ownsRow base e size v n xs) (hb : base' ≤ base) : w.ownsRow base' e size v n xs := by
  refine ⟨h.1, ?_⟩
  rcases h.2 with h2 | ⟨g, cap, cur, rfl, hg, r⟩
  · exact .inl h2
  · exact .inr ⟨g, cap, cur, rfl, Nat.le_trans hb hg, r⟩

theorem below_grown {w w1 : World} {row : Option Nat} (h : w.grownBy w1 row) (hr : ∀ g, row = some g → w.heap.size ≤ g) : Below w.heap.size w w1 :=
  (Below.refl w.heap.size w).grown h (Nat.le_refl _) hr

theorem readM_stop (s : ByteArray) (f k : Nat) (sts : List St) (h : ¬ k < s.size) : readM s f k sts = some sts := by
  cases f <;> simp [readM, h]
theorem readM_200 (s : ByteArray) (f k : Nat) (sts : List St) (h : k < s.size) (h2 : sts.length = 200) : readM s f k sts = none := by
  cases f <;> simp [readM, h, h2]
theorem readM_bad (s : ByteArray) (f k : Nat) (sts : List St) (h : k < s.size) (h2 : (lineM s k false).2.2 = true) : readM s f k sts = none := by
  cases f <;> simp [readM, h, h2]
theorem readM_step (s : ByteArray) (f k : Nat) (sts : List St) (h : k < s.size) (hf : s.size - k ≤ f) (h2 : ¬ sts.length = 200) (h3 : (lineM s k false).2.2 = false) :
    ∃ f', f = f' + 1 ∧ readM s f' (lineM s k false).2.1 (sts ++ [(lineM s k false).1]) = readM s f k sts := by
  match f, hf with
  | 0, hf => omega
  | f' + 1, hf => exact ⟨f', rfl, by simp [readM, h, h2, h3]⟩

theorem below_dN {B : Nat} {a w : World} (h : Below B a w) (n : Nat) : Below B a (w.drewN n) := ⟨h.os, h.tape, h.output, h.size, h.block⟩

def ReadPost (s : ByteArray) (w : World) (e : Ending) (w' : World) : Prop :=
  Below w.heap.size w w' ∧ (match readM s s.size 0 [] with
    | none => e = .returned (.tuple #[.slice none 0 0, .bool false])
    | some sts => sts.length ≤ 200 ∧ ∃ v, e = .returned (.tuple #[v, .bool (decide (0 < sts.length))]) ∧ w'.ownsRow w.heap.size 38 9 v sts.length (flat sts))

set_option maxHeartbeats 2000000 in
set_option maxRecDepth 100000 in
theorem readStates_any (s : ByteArray) (w : World) (hs : s.size ≤ 1048576) : Calls Tryd.prog 7 #[.string s] w fun e w' => ReadPost s w e w' := by
  obtain ⟨i0, hinf, hz0, hz1, hz2⟩ := info_parts Tryd.info38
  have hnew := new_any s w
  go_enter Tryd.func7, Tryd.ntmps7
  go_wp2_with fail
  refine hnew.mono ?_
  rintro e w0 ⟨rfl, hb0⟩
  have hsz0 := hb0.size
  clear hnew
  go_wp2_with fail
  obtain ⟨B, hB⟩ : ∃ B, B = w0.heap.size := ⟨_, rfl⟩
  rw [← hB]
  have HHB : Hid (B = w0.heap.size) := hB
  have hwB : w.heap.size ≤ B := by rw [hB]; exact hsz0
  clear hB
  go_loopw [5] (fun v wr => ∃ (f kk : Nat) (sts : List St), wr.ownsRow (B + 1) 38 9 v sts.length (flat sts) ∧ Rd wr B s kk false ∧ kk ≤ s.size ∧ readM s f kk sts = readM s s.size 0 [] ∧ s.size - kk ≤ f ∧
      sts.length ≤ 200 ∧ Below w.heap.size w wr) (fun _ wr => s.size - kOf wr B)
  case atStart =>
    refine ⟨s.size, 0, [], World.ownsRow_nil _ _ _ _, ?_, by omega, rfl, by omega, by simp, ?_⟩
    · rw [HHB.out]; exact heap_alloc_new w0 _
    · exact hb0.alloc hsz0 _
  case round =>
    obtain ⟨f, kk, sts, hown, hrd, hkk, hM, hf, hl, hbl⟩ := hrel
    obtain ⟨a0, cap0, rfl⟩ := own_form hown
    have hszr := hrd.lt
    have HRD : Hid (Rd wr B s kk false) := hrd
    have HM : Hid (readM s f kk sts = readM s s.size 0 []) := hM
    have hleft := left_any B s kk false wr hs hkk hrd
    clear hM
    by_cases hlt : kk < s.size
    · have hpos : (0 : Int) < (s.size : Int) - (kk : Int) := by omega
      go_wp2_with fail
      refine hleft.mono ?_
      rintro e w5 ⟨rfl, n5, rfl⟩
      clear hleft
      by_cases h200 : sts.length = 200
      · have h200i : (sts.length : Int) = 200 := by omega
        have e := HM.out
        rw [readM_200 s f kk sts hlt h200] at e
        have HE : Hid (none = readM s s.size 0 []) := e
        clear e
        go_wp2_with fail
        go_ret2
        refine ⟨below_dN hbl _, ?_⟩
        rw [← HE.out]
        rfl
      · have h200i : ¬ (sts.length : Int) = 200 := by omega
        have hline := line_any B s kk false (wr.drewN n5) hs hkk (hrd.drewN n5)
        obtain ⟨q, hq⟩ : ∃ q, q = lineM s kk false := ⟨_, rfl⟩
        rw [← hq] at hline
        obtain ⟨⟨q, k', bd⟩, rfl⟩ : ∃ q', q' = q := ⟨q, rfl⟩
        obtain ⟨S0, S1, S2, S3, S4, N0, N1, N2, N3, hc⟩ : ∃ (S0 S1 S2 S3 S4 : ByteArray) (N0 N1 N2 N3 : Int), q.cells = #[.string S0, .string S1, .string S2, .string S3, .string S4, .int .i64 N0, .int .i64 N1, .int .i64 N2, .int .i64 N3] := ⟨_, _, _, _, _, _, _, _, _, rfl⟩
        simp only [hc] at hline
        have HQ : Hid ((q, k', bd) = lineM s kk false) := hq
        have HC : Hid (q.cells = #[.string S0, .string S1, .string S2, .string S3, .string S4, .int .i64 N0, .int .i64 N1, .int .i64 N2, .int .i64 N3]) := hc
        clear hq hc
        go_wp2_with fail
        refine hline.mono ?_
        rintro e w2 ⟨rfl, hr2, hg2⟩
        have hbl2 : Below w.heap.size w w2 := (below_dN hbl n5).grown hg2 (by simp; omega) (fun g hg => by cases hg; omega)
        have hsz2 := hg2.size
        have hownd : (wr.drewN n5).ownsRow (B + 1) 38 9 (.slice a0 sts.length cap0) sts.length (flat sts) := hown
        have hown2 := hownd.kept hg2 (by
          rcases hv : (Value.slice a0 sts.length cap0).ownBlock with _ | g
          · exact Or.inl rfl
          · right; intro e; have := (hown.lt g hv).1; cases e; omega)
        have hlt2 := hr2.lt
        have hne2 : ¬ B = w2.heap.size := by omega
        have hbad := fun o => isBad_any B s k' bd (w2.alloc o) (hr2.alloc o)
        have HBAD : Hid _ := hbad
        clear hbad
        cases bd with
        | true =>
          have HE : Hid (none = readM s s.size 0 []) := by
            show none = _
            rw [← HM.out, readM_bad s f kk sts hlt (by rw [← HQ.out])]
          go_wp2_with (go_at_call 14; refine (HBAD.out _).mono ?_; rintro e w' ⟨rfl, rfl⟩)
          go_ret2
          refine ⟨hbl2.alloc (by omega) _, ?_⟩
          rw [← HE.out]
          rfl
        | false =>
          have hvb : ∀ g, (Value.slice a0 sts.length cap0).ownBlock = some g → B + 1 ≤ g := fun g hg => (hown.lt g hg).1
          clear hown hownd hline hrd
          have HR2 : Hid (Rd w2 B s k' false) := hr2
          have HB2 : Hid (Below w.heap.size w w2) := hbl2
          clear hr2 hbl2 hbl hg2
          go_wp2_with (first | (go_at_call 14; refine (HBAD.out _).mono ?_; rintro e w' ⟨rfl, rfl⟩) | (at_builtin; refine wpList_append_lies _ rfl _ _ 28 rfl (B + 1) 38 i0 _ 9 112 Tryd.underlying28 hinf hz0 hz1 hz2 rfl (by omega) (.slice a0 sts.length cap0) sts.length (flat sts) rfl ((hown2.alloc _).alloc _) ⟨w2.heap.size + 1, 0, none⟩ 1 1 [.string S0, .string S1, .string S2, .string S3, .string S4, .int .i64 N0, .int .i64 N1, .int .i64 N2, .int .i64 N3] rfl rfl ?c1 ?c2 (by omega) (by unfold maxLen; omega) (by omega) (by simp; omega) (w2.heap.size + 2) (by simp) ?_))
          case c1 => exact World.news_of_block (cs := #[.string S0, .string S1, .string S2, .string S3, .string S4, .int .i64 N0, .int .i64 N1, .int .i64 N2, .int .i64 N3]) (t := 38) (fr := (0, 0)) (heap_two w2 _ _).2
          case c2 => intro u hu; simp at hu; rcases hu with rfl | rfl | rfl | rfl | rfl | rfl | rfl | rfl | rfl <;> rfl
          intro gg cap w3 hown3 hgrow hat hltt
          have HR3 : Hid (Rd w3 B s k' false) := Rd.grown ((HR2.out.alloc _).alloc _) hgrow (fun e => by have := hvb _ e.symm; omega)
          have HB3 : Hid (Below w.heap.size w w3) := ((HB2.out.alloc (by omega) _).alloc (by simp; omega) _).grown hgrow (by simp; omega) (fun g hg => by have := hvb g hg; omega)
          have HO3 : Hid (w3.ownsRow (B + 1) 38 9 (.slice (some ⟨gg, 0, none⟩) (sts.length + 1) cap) (sts ++ [q]).length (flat (sts ++ [q]))) := by
            show w3.ownsRow (B + 1) 38 9 (.slice (some ⟨gg, 0, none⟩) (sts.length + 1) cap) (sts ++ [q]).length (flat (sts ++ [q]))
            rw [flat_snoc, HC.out, List.length_append]
            exact hown3
          clear hown3 hgrow hat hltt hown2 hinf hz0 hz1 hz2
          go_wp2
          have hk' := lineM_le s kk false hkk
          have hgt := lineM_gt s kk false (by rw [← HQ.out])
          obtain ⟨f', rfl, hst⟩ := readM_step s f kk sts hlt hf h200 (by rw [← HQ.out])
          rw [← HQ.out] at hk' hgt hst
          go_roundw
          case rel => exact ⟨f', k', sts ++ [q], HO3.out, HR3.out, hk', hst.trans HM.out, by simp only at hgt; omega, by simp; omega, HB3.out⟩
          case measure => exact lt_meas HRD.out HR3.out hgt hlt
    · have hpos : ¬ (0 : Int) < (s.size : Int) - (kk : Int) := by omega
      have e := HM.out
      rw [readM_stop s f kk sts hlt] at e
      have HE : Hid (some sts = readM s s.size 0 []) := e
      clear e
      go_wp2_with fail
      refine hleft.mono ?_
      rintro e w5 ⟨rfl, n5, rfl⟩
      clear hleft
      go_wp2_with fail
      go_ret2
      refine ⟨below_dN hbl _, ?_⟩
      rw [← HE.out]
      refine ⟨hl, _, ?_, own_base hown (by omega)⟩
      simp
end Go.Proofs.YtmbapmbpnnaanabDoor
