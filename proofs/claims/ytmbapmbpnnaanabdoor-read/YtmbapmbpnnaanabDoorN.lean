import Derived.Test.YtmbapmbpnnaanabDoorM
namespace Go.Proofs.YtmbapmbpnnaanabDoor
open Go.RowKit
attribute [local go_sem ↓] Go.wp_at_zero Go.wp_at_succ

theorem Tryd.info36 : (Tryd.prog.info? 36).map (fun i => (i.zero, i.size, i.bytes)) = some (some (.agg #[.int .i64 0, .int .i64 0, .int .i64 0, .int .i64 0]), 4, 32) := by kernel_rfl

/-- Four numbers, by the letters. -/
structure R4 where
  a : Nat
  b : Nat
  c : Nat
  d : Nat
def R4.cells (r : R4) : List Value := [.int .i64 (r.a : Int), .int .i64 (r.b : Int), .int .i64 (r.c : Int), .int .i64 (r.d : Int)]
def R4.all (r : R4) : List Nat := [r.a, r.b, r.c, r.d]
def flat4 (rs : List R4) : List Value := rs.flatMap R4.cells
theorem flat4_snoc (rs : List R4) (r : R4) : flat4 (rs ++ [r]) = flat4 rs ++ r.cells := by simp [flat4]
theorem flat4_get (rs : List R4) : ∀ (i j : Nat) (r : R4), rs[i]? = some r → j < 4 → (flat4 rs)[i * 4 + j]? = r.cells[j]? := by
  induction rs with
  | nil => intro i j q h; simp at h
  | cons a rs ih =>
    intro i j q h hj
    have e : flat4 (a :: rs) = a.cells ++ flat4 rs := by simp [flat4]
    have l4 : a.cells.length = 4 := rfl
    rw [e]
    match i with
    | 0 =>
      simp at h
      subst h
      rw [List.getElem?_append_left (by omega)]
      simp
    | i + 1 =>
      simp at h
      rw [List.getElem?_append_right (by omega), l4, ← ih i j q h hj]
      congr 1
      omega
/-- Rows of four numbers lie behind the value v. -/
def Nx (w : World) (v : Value) (rs : List R4) : Prop := w.ownsRow 0 36 4 v rs.length (flat4 rs)
theorem Nx.below {w w' : World} {v : Value} {rs : List R4} {B : Nat} (h : Nx w v rs) (hb : Below B w w') (hB : w.heap.size ≤ B) : Nx w' v rs := by
  refine ⟨h.1, ?_⟩
  rcases h.2 with h2 | ⟨g, cap, cur, rfl, hg, hh, r⟩
  · exact .inl h2
  · exact .inr ⟨g, cap, cur, rfl, hg, (hb.block g (Nat.lt_of_lt_of_le (Array.getElem?_eq_some_iff.1 hh).1 hB)).trans hh, r⟩
theorem Nx.form {w : World} {v : Value} {rs : List R4} (h : Nx w v rs) (h0 : 0 < rs.length) : ∃ g cap, v = .slice (some ⟨g, 0, none⟩) rs.length cap ∧ g < w.heap.size ∧ rs.length ≤ cap := by
  rcases h.2 with ⟨_, h2⟩ | ⟨g, cap, cur, rfl, hg, hh, r⟩
  · omega
  · exact ⟨g, cap, rfl, (Array.getElem?_eq_some_iff.1 hh).1, r.1⟩
theorem Nx.cell {w : World} {g n cap : Nat} {rs : List R4} (h : Nx w (.slice (some ⟨g, 0, none⟩) n cap) rs) (i j : Nat) (r : R4) (v : Value) (hr : rs[i]? = some r) (hj : j < 4) (hv : r.cells[j]? = some v) :
    w.cell? ⟨g, i * 4 + j, none⟩ = some v := by
  have := World.ownsRow.cells h (g := g) rfl (i * 4 + j) v (by rw [flat4_get rs i j r hr hj]; exact hv)
  have hadd : (⟨g, 0, none⟩ : Addr).add (i * 4 + j) = ⟨g, i * 4 + j, none⟩ := by unfold Addr.add; split <;> simp_all
  rw [hadd] at this
  exact this
theorem Nx.four {w : World} {g n cap : Nat} {rs : List R4} (h : Nx w (.slice (some ⟨g, 0, none⟩) n cap) rs) (i : Nat) (r : R4) (hr : rs[i]? = some r) :
    w.cell? ⟨g, i * 4, none⟩ = some (.int .i64 (r.a : Int)) ∧ w.cell? ⟨g, i * 4 + 1, none⟩ = some (.int .i64 (r.b : Int)) ∧ w.cell? ⟨g, i * 4 + 2, none⟩ = some (.int .i64 (r.c : Int)) ∧ w.cell? ⟨g, i * 4 + 3, none⟩ = some (.int .i64 (r.d : Int)) :=
  ⟨h.cell i 0 r _ hr (by omega) rfl, h.cell i 1 r _ hr (by omega) rfl, h.cell i 2 r _ hr (by omega) rfl, h.cell i 3 r _ hr (by omega) rfl⟩

def St.r4 (q : St) : R4 := ⟨q.nx.getD 0 0, q.nx.getD 1 0, q.nx.getD 2 0, q.nx.getD 3 0⟩

set_option maxHeartbeats 1000000 in
set_option maxRecDepth 100000 in
theorem nextStates_any (v : Value) (sts : List St) (w : World) (hst : Sts w v sts) (h0 : 0 < sts.length) (hl : sts.length ≤ 200) :
    Calls Tryd.prog 25 #[v] w fun e w' => ∃ v', e = .returned v' ∧ Nx w' v' (sts.map St.r4) ∧ Below w.heap.size w w' := by
  obtain ⟨i0, hinf, hz0, hz1, hz2⟩ := info_parts Tryd.info36
  obtain ⟨g, cap, rfl, hg, hcap⟩ := hst.form h0
  have hnine := fun (wx : World) (hb : Below w.heap.size w wx) (i : Nat) (q : St) (hq : sts[i]? = some q) => (hst.below hb (Nat.le_refl _)).nine i q hq
  obtain ⟨n, hn⟩ : ∃ n, n = sts.length := ⟨_, rfl⟩
  have hget : ∀ i, i < n → ∃ q, sts[i]? = some q := fun i hi => ⟨sts[i]'(by omega), List.getElem?_eq_getElem _⟩
  rw [← hn] at h0 hl hcap hst ⊢
  have HNINE : Hid _ := hnine
  have HGET : Hid _ := hget
  have HN : Hid (n = sts.length) := hn
  clear hn hst hnine hget
  go_enter Tryd.func25, Tryd.ntmps25
  go_wp2
  go_loopw [3, 8] (fun vv ii wr => ∃ (i : Nat), i ≤ n ∧ ii = .int .i64 (i : Int) ∧ wr.ownsRow w.heap.size 36 4 vv i (flat4 ((sts.take i).map St.r4)) ∧ Below w.heap.size w wr) (fun _ ii _ => n - (intOf ii).toNat)
  case atStart => exact ⟨0, by omega, rfl, by simpa [flat4] using World.ownsRow_nil _ _ _ _, Below.refl _ _⟩
  case round =>
    obtain ⟨i, hi, rfl, hown, hb⟩ := hrel
    obtain ⟨a0, cap0, rfl⟩ := own_form hown
    have hsz := hb.size
    by_cases hlt : i < n
    · obtain ⟨q, hq⟩ := HGET.out i hlt
      obtain ⟨S0, S1, S2, S3, S4, N0, N1, N2, N3, hS, c0, c1, c2, c3, c4, c5, c6, c7, c8⟩ := HNINE.out wr hb i q hq
      have HC : Hid (flat4 ((sts.take (i + 1)).map St.r4) = flat4 ((sts.take i).map St.r4) ++ [.int .i64 (N0 : Int), .int .i64 (N1 : Int), .int .i64 (N2 : Int), .int .i64 (N3 : Int)]) := by
        show flat4 ((sts.take (i + 1)).map St.r4) = _
        obtain ⟨-, -, e3⟩ := hS
        simp only [St.nexts, List.cons.injEq, and_true] at e3
        obtain ⟨g1, g2, g3, g4⟩ := e3
        rw [List.take_add_one, hq, g1, g2, g3, g4]
        simp [flat4, R4.cells, St.r4]
      have hvb : ∀ g, (Value.slice a0 i cap0).ownBlock = some g → w.heap.size ≤ g := fun g hg => (hown.lt g hg).1
      have HB : Hid (Below w.heap.size w wr) := hb
      clear hS hq hb
      go_wp2_with (at_builtin; refine wpList_append_lies _ rfl _ _ 57 rfl w.heap.size 36 i0 _ 4 32 Tryd.underlying57 hinf hz0 hz1 hz2 rfl (by omega) (.slice a0 i cap0) i (flat4 ((sts.take i).map St.r4)) rfl ((hown.alloc _).alloc _) ⟨wr.heap.size + 1, 0, none⟩ 1 1 [.int .i64 (N0 : Int), .int .i64 (N1 : Int), .int .i64 (N2 : Int), .int .i64 (N3 : Int)] rfl rfl ?c1 ?c2 (by omega) (by unfold maxLen; omega) (by omega) (by simp; omega) (wr.heap.size + 2) (by simp) ?_)
      case c1 => exact World.news_of_block (cs := #[.int .i64 (N0 : Int), .int .i64 (N1 : Int), .int .i64 (N2 : Int), .int .i64 (N3 : Int)]) (t := 36) (fr := (0, 0)) (heap_two wr _ _).2
      case c2 => intro u hu; simp at hu; rcases hu with rfl | rfl | rfl | rfl <;> rfl
      intro gg cap2 w3 hown3 hgrow hat hltt
      have HB3 : Hid (Below w.heap.size w w3) := ((HB.out.alloc (by omega) _).alloc (by simp; omega) _).grown hgrow (by simp; omega) (fun g hg => by have := hvb g hg; omega)
      have HO3 : Hid (w3.ownsRow w.heap.size 36 4 (.slice (some ⟨gg, 0, none⟩) (i + 1) cap2) (i + 1) (flat4 ((sts.take (i + 1)).map St.r4))) := by
        show w3.ownsRow w.heap.size 36 4 (.slice (some ⟨gg, 0, none⟩) (i + 1) cap2) (i + 1) (flat4 ((sts.take (i + 1)).map St.r4))
        rw [HC.out, List.map_take]
        exact hown3
      clear hown3 hgrow hat hltt hown hinf hz0 hz1 hz2 c0 c1 c2 c3 c4 c5 c6 c7 c8
      go_wp2
      go_roundw
      case rel => exact ⟨i + 1, by omega, by go_num, HO3.out, HB3.out⟩
      case measure => simp [intOf]; omega
    · obtain rfl : i = n := by omega
      have HO : Hid (Nx wr (.slice a0 i cap0) (sts.map St.r4)) := by
        show wr.ownsRow 0 36 4 (.slice a0 i cap0) (sts.map St.r4).length (flat4 (sts.map St.r4))
        have := own_base hown (Nat.zero_le _)
        rw [List.take_of_length_le (by have := HN.out; omega)] at this
        rw [List.length_map, ← HN.out]
        exact this
      clear hown
      go_wp2
      go_ret
      exact ⟨_, rfl, HO.out, hb⟩
end Go.Proofs.YtmbapmbpnnaanabDoor
