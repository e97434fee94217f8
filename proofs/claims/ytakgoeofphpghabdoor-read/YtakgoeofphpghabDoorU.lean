import Derived.Test.YtakgoeofphpghabDoorR
namespace Go.Proofs.YtakgoeofphpghabDoor
open Go.RowKit

set_option maxHeartbeats 1000000 in
set_option maxRecDepth 100000 in
theorem allDiffer_any (v : Value) (sts : List St) (w : World) (hst : Sts w v sts) (h0 : 0 < sts.length) (hl : sts.length ≤ 200) (hin : Within sts) :
    Calls Tryd.prog 14 #[v] w fun e w' => (∃ b : Bool, e = .returned (.bool b) ∧ (sts.length = 1 → b = true)) ∧ Below w.heap.size w w' := by
  have hsaid := classesBySaid_any v sts w hst h0 hl
  have hnext := fun (wx : World) (hb : Below w.heap.size w wx) (u : Value) (cls : List Nat) (hc : Ints wx u cls) (hlen : cls.length = sts.length) => classesByNext_any v u sts cls wx (hst.below hb (Nat.le_refl _)) hc hlen h0 hl hin
  obtain ⟨g, cap, rfl, hg, hcap⟩ := hst.form h0
  obtain ⟨n, hn⟩ : ∃ n, n = sts.length := ⟨_, rfl⟩
  rw [← hn] at h0 hl hcap hsaid hnext ⊢
  have HNEXT : Hid _ := hnext
  clear hn hst hin hnext
  go_enter Tryd.func14, Tryd.ntmps14
  go_wp2_with fail
  refine hsaid.mono ?_
  rintro e w1 ⟨fin, c, u, rfl, hints, hfl, hC, -, hb⟩
  have HI : Hid (Ints w1 u fin) := hints
  have HC : Hid (Cl fin n c) := hC
  clear hsaid hints hC
  go_wp2_with fail
  go_loopw [3, 4] (fun vv cc wr => ∃ (cls : List Nat) (c : Nat), cc = .int .i64 (c : Int) ∧ Ints wr vv cls ∧ cls.length = n ∧ c ≤ n ∧ 0 < c ∧ c ≤ firsts cls n ∧ Below w.heap.size w wr) (fun _ cc _ => n - (intOf cc).toNat)
  case atStart => exact ⟨fin, c, rfl, HI.out, hfl, HC.out.le, HC.out.pos h0, HC.out.fi, hb⟩
  case round =>
    obtain ⟨cls, c2, rfl, hints, hcl, hcn, hc0, hcf, hb2⟩ := hrel
    have hcall := HNEXT.out wr hb2 _ cls hints hcl
    have HCF : Hid (c2 ≤ firsts cls n) := hcf
    clear hints hcf
    go_wp2_with fail
    refine hcall.mono ?_
    rintro e w2 ⟨fin2, d, u2, rfl, hints2, hfl2, hC2, hlo, hb3⟩
    have hdn := hC2.le
    have hcd : c2 ≤ d := Nat.le_trans HCF.out hlo
    have HI2 : Hid (Ints w2 u2 fin2) := hints2
    have HC2 : Hid (Cl fin2 n d) := hC2
    have hb4 : Below w.heap.size w w2 := hb2.trans (hb3.mono hb2.size)
    clear hcall hints2 hC2 hlo hb3
    by_cases hdc : d = c2
    · have hdi : ((d : Int) == (c2 : Int)) = true := by simp [hdc]
      have HP : Hid (n = 1 → ((c2 : Int) == (n : Int)) = true) := fun h => by
        have : c2 = n := by omega
        simp [this]
      clear hdc
      go_wp2_with fail
      go_ret
      exact ⟨⟨_, rfl, HP.out⟩, hb4⟩
    · have hdi : ((d : Int) == (c2 : Int)) = false := by
        rw [beq_eq_false_iff_ne]
        omega
      go_wp2_with fail
      go_roundw
      case rel => exact ⟨fin2, d, rfl, HI2.out, hfl2, hdn, by omega, HC2.out.fi, hb4⟩
      case measure => simp [intOf]; omega

/-- What 'isNumbered' says of the numbers. -/
theorem numTs_lt {n : Nat} : ∀ {l : List Nat} {m r : Nat}, numTs n l m = some r → ∀ t ∈ l, t < n
  | [], _, _, _ => by simp
  | a :: l, m, r, h => by
    simp only [numTs] at h
    split at h
    · cases h
    · rename_i hc
      intro t ht
      rcases List.mem_cons.1 ht with rfl | ht
      · omega
      · exact numTs_lt h t ht
theorem numQs_in {n : Nat} : ∀ {l : List St} {i m r : Nat}, numQs n l i m = some r → ∀ q ∈ l, ∀ t ∈ q.nexts, t < n
  | [], _, _, _, _ => by simp
  | a :: l, i, m, r, h => by
    simp only [numQs] at h
    split at h
    · cases h
    · split at h
      · cases h
      · rename_i hs
        intro q hq
        rcases List.mem_cons.1 hq with rfl | hq
        · exact numTs_lt hs
        · exact numQs_in h q hq
theorem within_of {sts : List St} (h : isNumB sts = true) : Within sts := by
  unfold isNumB at h
  cases hn : numQs sts.length sts 0 1 with
  | none => rw [hn] at h; cases h
  | some r => exact numQs_in hn

set_option maxHeartbeats 1000000 in
theorem isSound_any (v : Value) (sts : List St) (w : World) (hst : Sts w v sts) (h0 : 0 < sts.length) (hl : sts.length ≤ 200) :
    Calls Tryd.prog 8 #[v] w fun e w' => (∃ b : Bool, e = .returned (.bool b) ∧ (b = true → Within sts) ∧
      (sts.length = 1 → isNumB sts = true → (∀ sets, Good sts sets → Fixed sts sets → sets.any oneB = false) → b = true)) ∧ Below w.heap.size w w' := by
  have hnum := isNumbered_any v sts w hst h0 hl
  have hstb := fun (wx : World) (hb : Below w.heap.size w wx) => hst.below hb (Nat.le_refl _)
  cases hN : isNumB sts with
  | false =>
    rw [hN] at hnum
    have HP : Hid (sts.length = 1 → false = true → (∀ sets, Good sts sets → Fixed sts sets → sets.any oneB = false) → false = true) := fun _ h => by cases h
    clear hN hstb
    go_enter Tryd.func8, Tryd.ntmps8
    go_wp2_with fail
    refine hnum.mono ?_
    rintro e w1 ⟨rfl, hb⟩
    clear hnum
    go_wp2_with fail
    go_ret
    exact ⟨⟨false, rfl, (fun h => by cases h), HP.out⟩, hb⟩
  | true =>
    rw [hN] at hnum
    have HW : Hid (Within sts) := within_of hN
    clear hN
    go_enter Tryd.func8, Tryd.ntmps8
    go_wp2_with fail
    refine hnum.mono ?_
    rintro e w1 ⟨rfl, hb⟩
    have hearly := isEarly_any v sts w1 (hstb w1 hb) h0 hl HW.out
    clear hnum
    go_wp2_with fail
    refine hearly.mono ?_
    rintro e w2 ⟨⟨sets, hgood, hfix, rfl⟩, hb2⟩
    have hb3 : Below w.heap.size w w2 := hb.trans (hb2.mono hb.size)
    have hdiff := allDiffer_any v sts w2 (hstb w2 hb3) h0 hl HW.out
    clear hearly hb2
    have HGF : Hid (Good sts sets ∧ Fixed sts sets) := ⟨hgood, hfix⟩
    clear hgood hfix
    cases hA : sets.any oneB with
    | true =>
      have HP : Hid ((∀ sets, Good sts sets → Fixed sts sets → sets.any oneB = false) → false = true) := fun h => by
        have := h sets HGF.out.1 HGF.out.2
        rw [hA] at this
        cases this
      clear hA
      go_wp2_with fail
      go_ret
      exact ⟨⟨false, rfl, (fun h => by cases h), fun _ _ h => HP.out h⟩, hb3⟩
    | false =>
      clear hA
      go_wp2_with fail
      refine hdiff.mono ?_
      rintro e w3 ⟨⟨b, rfl, hb1⟩, hb4⟩
      have HB1 : Hid (sts.length = 1 → b = true) := hb1
      clear hb1 hdiff
      go_wp2_with fail
      go_ret
      exact ⟨⟨b, rfl, fun _ => HW.out, fun h _ _ => HB1.out h⟩, hb3.trans (hb4.mono hb3.size)⟩
end Go.Proofs.YtakgoeofphpghabDoor
