import Derived.Test.YtmbapmbpnnaanabDoorR
namespace Go.Proofs.YtmbapmbpnnaanabDoor
open Go.RowKit

theorem r4_in {sts : List St} (h : Within sts) : ∀ r ∈ sts.map St.r4, ∀ t ∈ r.all, t < (sts.map St.r4).length := by
  intro r hr t ht
  obtain ⟨q, hq, rfl⟩ := List.mem_map.1 hr
  rw [List.length_map]
  exact h q hq t ht

set_option maxHeartbeats 1000000 in
set_option maxRecDepth 100000 in
theorem allDiffer_any (v : Value) (sts : List St) (w : World) (hst : Sts w v sts) (h0 : 0 < sts.length) (hl : sts.length ≤ 200) (hin : Within sts) :
    Calls Tryd.prog 17 #[v] w fun e w' => (∃ b : Bool, e = .returned (.bool b) ∧ (sts.length = 1 → b = true)) ∧ Below w.heap.size w w' := by
  have hsaid := bySaid_any v sts w hst h0 hl
  have hnext := fun (wx : World) (hb : Below w.heap.size w wx) => nextStates_any v sts wx (hst.below hb (Nat.le_refl _)) h0 hl
  obtain ⟨g, cap, rfl, hg, hcap⟩ := hst.form h0
  obtain ⟨rs, hrs⟩ : ∃ rs, rs = sts.map St.r4 := ⟨_, rfl⟩
  have hrl : rs.length = sts.length := by rw [hrs]; simp
  have hri := r4_in hin
  rw [← hrs] at hri hnext
  have href := fun (cl : List Nat) (m : Nat) (vo vn : Value) (wx : World) (h1 : Ints wx vo cl) (h2 : Nx wx vn rs) (h3 : cl.length = rs.length) (h4 : Cl cl rs.length m) => refine_any cl rs m vo vn wx h1 h2 h3 (by rw [hrl]; exact h0) (by rw [hrl]; exact hl) h4 hri
  rw [hrl] at href
  obtain ⟨n, hn⟩ : ∃ n, n = sts.length := ⟨_, rfl⟩
  rw [← hn] at h0 hl hcap hsaid hnext href hrl ⊢
  have HNEXT : Hid _ := hnext
  have HREF : Hid _ := href
  have HRL : Hid (rs.length = n) := hrl
  clear hn hst hin hnext href hrs hri hrl
  go_enter Tryd.func17, Tryd.ntmps17
  go_wp2_with fail
  refine hsaid.mono ?_
  rintro e w1 ⟨fin, c, u, rfl, hints, hfl, hC, -, hb⟩
  obtain ⟨g6, cap6, rfl⟩ := hints.formN hfl h0
  have hcn := hC.le
  have HI : Hid (Ints w1 (.slice (some ⟨g6, 0, none⟩) n cap6) fin) := hints
  have HC : Hid (Cl fin n c) := hC
  have hsz1 := hb.size
  clear hsaid hints hC
  go_wp2_with fail
  refine (HNEXT.out _ (hb.alloc hsz1 _)).mono ?_
  rintro e w2 ⟨vn, rfl, hnx, hb2⟩
  obtain ⟨g7, cap7, rfl, -, -⟩ := hnx.form (by rw [HRL.out]; exact h0)
  rw [HRL.out] at hnx ⊢
  have hblk : w2.heap[w1.heap.size]? = some (.cells #[.slice (some ⟨g6, 0, none⟩) n cap6, .int .i64 (c : Int)] 55 (0, 0)) := (hb2.block _ (by simp)).trans (heap_alloc_new w1 _)
  have hsz2 : w1.heap.size + 1 ≤ w2.heap.size := by have := hb2.size; simpa using this
  have hb3 : Below w.heap.size w w2 := (hb.alloc hsz1 _).trans (hb2.mono (by simp; omega))
  have hb4 : Below w1.heap.size w1 w2 := ((Below.refl _ _).alloc (Nat.le_refl _) _).trans (hb2.mono (by simp))
  have x0 := blk_cell hblk 0 _ rfl
  have x1 := blk_cell hblk 1 _ rfl
  simp only [List.getElem_toArray, List.getElem_cons_zero, List.getElem_cons_succ] at x0 x1
  have hcall := HREF.out fin c (.slice (some ⟨g6, 0, none⟩) n cap6) (.slice (some ⟨g7, 0, none⟩) n cap7) w2 (HI.out.below hb4 (Nat.le_refl _)) hnx hfl HC.out
  clear hnx hblk hb2 hb4
  go_wp2_with fail
  refine hcall.mono ?_
  rintro e w3 ⟨fin3, d, v3, rfl, hints3, hfl3, hC3, -, hb5⟩
  obtain ⟨g8, cap8, rfl⟩ := hints3.formN hfl3 h0
  have hdn := hC3.le
  have hd0 := hC3.pos h0
  have hb6 : Below w.heap.size w w3 := hb3.trans (hb5.mono hb3.size)
  have hsz3 := hb6.size
  have HP : Hid (n = 1 → ((d : Int) == (n : Int)) = true) := fun h => by
    have : d = n := by omega
    simp [this]
  clear hcall hints3 hC3 x0 x1
  go_wp2
  go_ret
  exact ⟨⟨_, rfl, HP.out⟩, hb6.alloc hsz3 _⟩

/-- What 'isNumbered' says of the numbers. -/
theorem numTs_lt {n : Nat} : ∀ {l : List Nat} {m r : Nat}, numTs n l m = some r → ∀ t ∈ l, t < n
  | [], _, _, _ => by simp
  | a :: l, m, r, h => by
    simp only [numTs] at h
    split at h
    · cases h
    · rename_i hc
      intro t ht
      rcases List.mem_cons.1 ht with rfl | ht
      · omega
      · exact numTs_lt h t ht
theorem numQs_in {n : Nat} : ∀ {l : List St} {i m r : Nat}, numQs n l i m = some r → ∀ q ∈ l, ∀ t ∈ q.nexts, t < n
  | [], _, _, _, _ => by simp
  | a :: l, i, m, r, h => by
    simp only [numQs] at h
    split at h
    · cases h
    · split at h
      · cases h
      · rename_i hs
        intro q hq
        rcases List.mem_cons.1 hq with rfl | hq
        · exact numTs_lt hs
        · exact numQs_in h q hq
theorem within_of {sts : List St} (h : isNumB sts = true) : Within sts := by
  unfold isNumB at h
  cases hn : numQs sts.length sts 0 1 with
  | none => rw [hn] at h; cases h
  | some r => exact numQs_in hn

set_option maxHeartbeats 1000000 in
theorem isSound_any (v : Value) (sts : List St) (w : World) (hst : Sts w v sts) (h0 : 0 < sts.length) (hl : sts.length ≤ 200) :
    Calls Tryd.prog 8 #[v] w fun e w' => (∃ b : Bool, e = .returned (.bool b) ∧ (b = true → Within sts) ∧
      (sts.length = 1 → isNumB sts = true → (∀ sets, Good sts sets → Fixed sts sets → sets.any oneB = false) → b = true)) ∧ Below w.heap.size w w' := by
  have hnum := isNumbered_any v sts w hst h0 hl
  have hstb := fun (wx : World) (hb : Below w.heap.size w wx) => hst.below hb (Nat.le_refl _)
  cases hN : isNumB sts with
  | false =>
    rw [hN] at hnum
    have HP : Hid (sts.length = 1 → false = true → (∀ sets, Good sts sets → Fixed sts sets → sets.any oneB = false) → false = true) := fun _ h => by cases h
    clear hN hstb
    go_enter Tryd.func8, Tryd.ntmps8
    go_wp2_with fail
    refine hnum.mono ?_
    rintro e w1 ⟨rfl, hb⟩
    clear hnum
    go_wp2_with fail
    go_ret
    exact ⟨⟨false, rfl, (fun h => by cases h), HP.out⟩, hb⟩
  | true =>
    rw [hN] at hnum
    have HW : Hid (Within sts) := within_of hN
    clear hN
    go_enter Tryd.func8, Tryd.ntmps8
    go_wp2_with fail
    refine hnum.mono ?_
    rintro e w1 ⟨rfl, hb⟩
    have hearly := isEarly_any v sts w1 (hstb w1 hb) h0 hl HW.out
    clear hnum
    go_wp2_with fail
    refine hearly.mono ?_
    rintro e w2 ⟨⟨sets, hgood, hfix, rfl⟩, hb2⟩
    have hb3 : Below w.heap.size w w2 := hb.trans (hb2.mono hb.size)
    have hdiff := allDiffer_any v sts w2 (hstb w2 hb3) h0 hl HW.out
    clear hearly hb2
    have HGF : Hid (Good sts sets ∧ Fixed sts sets) := ⟨hgood, hfix⟩
    clear hgood hfix
    cases hA : sets.any oneB with
    | true =>
      have HP : Hid ((∀ sets, Good sts sets → Fixed sts sets → sets.any oneB = false) → false = true) := fun h => by
        have := h sets HGF.out.1 HGF.out.2
        rw [hA] at this
        cases this
      clear hA
      go_wp2_with fail
      go_ret
      exact ⟨⟨false, rfl, (fun h => by cases h), fun _ _ h => HP.out h⟩, hb3⟩
    | false =>
      clear hA
      go_wp2_with fail
      refine hdiff.mono ?_
      rintro e w3 ⟨⟨b, rfl, hb1⟩, hb4⟩
      have HB1 : Hid (sts.length = 1 → b = true) := hb1
      clear hb1 hdiff
      go_wp2_with fail
      go_ret
      exact ⟨⟨b, rfl, fun _ => HW.out, fun h _ _ => HB1.out h⟩, hb3.trans (hb4.mono hb3.size)⟩
end Go.Proofs.YtmbapmbpnnaanabDoor
