import Derived.Test.YtmbapmbpnnaanabDoorQ
namespace Go.Proofs.YtmbapmbpnnaanabDoor
open Go.RowKit

theorem Ints.formN {w : World} {v : Value} {xs : List Nat} {n : Nat} (h : Ints w v xs) (hl : xs.length = n) (h0 : 0 < n) : ∃ g cap, v = .slice (some ⟨g, 0, none⟩) n cap := by
  obtain ⟨g, cap, e, -, -⟩ := h.form (by omega)
  rw [hl] at e
  exact ⟨g, cap, e⟩
theorem Ints.apart {w : World} {v : Value} {xs : List Nat} {S : Nat} {a : Array Value} {fr : Nat × Nat} (h : Ints w v xs) (hS : w.heap[S]? = some (.cells a 55 fr)) (o : Nat) (x : Value) : Ints (w.setCell ⟨S, o, none⟩ x) v xs := by
  refine ⟨h.1, ?_⟩
  rcases h.2 with h2 | ⟨g, cap, cur, rfl, hg, hh, r⟩
  · exact .inl h2
  · refine .inr ⟨g, cap, cur, rfl, hg, ?_, r⟩
    refine blk_other hh _ _ (fun e => ?_)
    rw [e, hS] at hh
    cases hh

/-- How many classes there are, as the world has it: for a measure. -/
def cOf (w : World) (b : Nat) : Nat := (intOf ((w.cell? ⟨b, 1, none⟩).getD (.int .i64 0))).toNat
theorem cOf_at {w : World} {b c : Nat} {v : Value} (h : w.heap[b]? = some (.cells #[v, .int .i64 (c : Int)] 55 (0, 0))) : cOf w b = c := by
  unfold cOf; rw [blk_cell h 1 _ rfl]; simp [intOf]
theorem c_meas {w w' : World} {b n c d : Nat} {v v' : Value} (h : w.heap[b]? = some (.cells #[v, .int .i64 (c : Int)] 55 (0, 0))) (h' : w'.heap[b]? = some (.cells #[v', .int .i64 (d : Int)] 55 (0, 0))) (hlt : c < d) (hd : d ≤ n) : n - cOf w' b < n - cOf w b := by
  rw [cOf_at h, cOf_at h']; omega

theorem two_new (w : World) (o p : Obj) : ((w.alloc o).alloc p).heap[w.heap.size]? = some o ∧ ((w.alloc o).alloc p).heap[w.heap.size + 1]? = some p := heap_two w o p

set_option maxHeartbeats 2000000 in
set_option maxRecDepth 100000 in
theorem refine_any (cl : List Nat) (rs : List R4) (m : Nat) (vo vn : Value) (w : World) (hcl : Ints w vo cl) (hrs : Nx w vn rs) (hlen : cl.length = rs.length) (h0 : 0 < rs.length) (hl : rs.length ≤ 200)
    (hC : Cl cl rs.length m) (hin : ∀ r ∈ rs, ∀ t ∈ r.all, t < rs.length) :
    Calls Tryd.prog 26 #[.agg #[vo, .int .i64 (m : Int)], vn, .int .i64 200] w fun e w' => ClPost rs.length 0 w e w' := by
  have hnx := fun (wx : World) (hb : Below w.heap.size w wx) => hrs.below hb (Nat.le_refl _)
  obtain ⟨g, cap, rfl, hg, hcap⟩ := hrs.form h0
  obtain ⟨n, hn⟩ : ∃ n, n = rs.length := ⟨_, rfl⟩
  rw [← hn] at h0 hl hcap hC hlen hnx ⊢
  have HNX : Hid _ := hnx
  have HN : Hid (n = rs.length) := hn
  have HIN : Hid (∀ r ∈ rs, ∀ t ∈ r.all, t < rs.length) := hin
  have HI0 : Hid (∀ o p, Ints ((w.alloc o).alloc p) vo cl) := fun o p => hcl.below (((Below.refl _ _).alloc (Nat.le_refl _) o).alloc (by simp) p) (Nat.le_refl _)
  have HC0 : Hid (Cl cl n m) := hC
  have HL0 : Hid (cl.length = n) := hlen
  clear hn hnx hin hrs hcl hC hlen
  go_enter Tryd.func26, Tryd.ntmps26
  go_wp2
  go_loopw [7, 8] (fun _ _ wr => ∃ (cl : List Nat) (m : Nat) (vo : Value), wr.heap[w.heap.size]? = some (.cells #[vo, .int .i64 (m : Int)] 55 (0, 0)) ∧ wr.heap[w.heap.size + 1]? = some (.cells #[.slice none 0 0, .int .i64 0] 55 (0, 0)) ∧
      Ints wr vo cl ∧ cl.length = n ∧ Cl cl n m ∧ Below w.heap.size w wr) (fun _ _ wr => n - cOf wr w.heap.size)
  case atStart => exact ⟨cl, m, vo, (two_new w _ _).1, (two_new w _ _).2, HI0.out _ _, HL0.out, HC0.out, ((Below.refl _ _).alloc (Nat.le_refl _) _).alloc (by simp) _⟩
  case round =>
    clear HI0 HC0 HL0
    obtain ⟨cl, m, vo, hbox, hres, hints, hcl, hC, hb⟩ := hrel
    have hmn := hC.le
    have x0 := blk_cell hbox 0 _ rfl
    have x1 := blk_cell hbox 1 _ rfl
    simp only [List.getElem_toArray, List.getElem_cons_zero, List.getElem_cons_succ] at x0 x1
    have hm2 : (m : Int) ≤ 200 := by omega
    have HBOX : Hid _ := hbox
    have HRES : Hid _ := hres
    have HINTS : Hid (Ints wr vo cl) := hints
    have HC : Hid (Cl cl n m) := hC
    have hwr := hb.size
    clear hbox hres hints hC
    go_wp2
    go_loopw [8] (fun ll wx => ∃ (j : Nat) (cl2 : List Nat) (m2 : Nat) (vo2 : Value), j ≤ 4 ∧ ll = .int .i64 (j : Int) ∧ wx.heap[w.heap.size]? = some (.cells #[vo2, .int .i64 (m2 : Int)] 55 (0, 0)) ∧
        wx.heap[w.heap.size + 1]? = some (.cells #[.slice none 0 0, .int .i64 0] 55 (0, 0)) ∧ Ints wx vo2 cl2 ∧ cl2.length = n ∧ Cl cl2 n m2 ∧ m ≤ m2 ∧ Below w.heap.size w wx) (fun ll _ => 4 - (intOf ll).toNat)
    case atStart => exact ⟨0, cl, m, vo, by omega, rfl, HBOX.out, HRES.out, HINTS.out, hcl, HC.out, Nat.le_refl _, hb⟩
    case round =>
      obtain ⟨j, cl2, m2, vo2, hj, rfl, hbox, hres, hints, hcl2, hC, hmm, hb2⟩ := hrel
      clear x0 x1
      have hmn2 := hC.le
      have hsz := (Array.getElem?_eq_some_iff.1 hres).1
      have x0 := blk_cell hbox 0 _ rfl
      have x1 := blk_cell hbox 1 _ rfl
      simp only [List.getElem_toArray, List.getElem_cons_zero, List.getElem_cons_succ] at x0 x1
      have HBX : Hid (wr.heap[w.heap.size]? = some (.cells #[vo2, .int .i64 (m2 : Int)] 55 (0, 0))) := hbox
      have HRS : Hid (wr.heap[w.heap.size + 1]? = some (.cells #[.slice none 0 0, .int .i64 0] 55 (0, 0))) := hres
      have HCF : Hid (m2 ≤ firsts cl2 n) := hC.fi
      have hm3 : (m2 : Int) ≤ 200 := by omega
      clear hbox hres
      match j, hj with
      | 0, _ =>
        have hcall := split0_any cl2 rs m2 vo2 (.slice (some ⟨g, 0, none⟩) n cap) wr hints (HNX.out wr hb2) (hcl2.trans HN.out) (by rw [← HN.out]; exact h0) (by rw [← HN.out]; exact hl) (by rw [← HN.out]; exact hC) HIN.out
        rw [← HN.out] at hcall
        clear hints hC
        go_wp2_with fail
        refine hcall.mono ?_
        rintro e w2 ⟨fin, d, v2, rfl, hints2, hfl2, hC2, hlo, hb3⟩
        obtain ⟨g6, cap6, rfl⟩ := hints2.formN hfl2 h0
        have hcd : m2 ≤ d := Nat.le_trans HCF.out hlo
        have hdn := hC2.le
        have hbox2 : w2.heap[w.heap.size]? = some (.cells #[vo2, .int .i64 (m2 : Int)] 55 (0, 0)) := (hb3.block _ (by omega)).trans HBX.out
        have hres2 : w2.heap[w.heap.size + 1]? = some (.cells #[.slice none 0 0, .int .i64 0] 55 (0, 0)) := (hb3.block _ (by omega)).trans HRS.out
        have hb4 : Below w.heap.size w w2 := hb2.trans (hb3.mono (by omega))
        have fx0 := blk_free hbox2 0
        have fx1 := blk_free hbox2 1
        have z0 := blk_cell hbox2 0 _ rfl
        have z1 := blk_cell hbox2 1 _ rfl
        simp only [List.getElem_toArray, List.getElem_cons_zero, List.getElem_cons_succ] at z0 z1
        have HBX2 : Hid _ := hbox2
        have HRS2 : Hid _ := hres2
        have HI2 : Hid (Ints w2 (.slice (some ⟨g6, 0, none⟩) n cap6) fin) := hints2
        have HC2 : Hid (Cl fin n d) := hC2
        clear hcall hints2 hC2 hlo hbox2 hres2 x0 x1
        go_wp2
        go_roundw
        case rel =>
          refine ⟨0 + 1, fin, d, .slice (some ⟨g6, 0, none⟩) n cap6, by omega, rfl, ?_, ?_, ?_, hfl2, HC2.out, by omega, ?_⟩
          · exact blk_set (blk_set HBX2.out 0 _) 1 _
          · exact blk_other (blk_other HRS2.out _ _ (by omega)) _ _ (by omega)
          · exact (HI2.out.apart HBX2.out 0 _).apart (blk_set HBX2.out 0 _) 1 _
          · exact (hb4.setCell (p := ⟨w.heap.size, 0, none⟩) (Nat.le_refl _) _).setCell (p := ⟨w.heap.size, 1, none⟩) (Nat.le_refl _) _
        case measure => simp [intOf]
      | 1, _ =>
        have hcall := split1_any cl2 rs m2 vo2 (.slice (some ⟨g, 0, none⟩) n cap) wr hints (HNX.out wr hb2) (hcl2.trans HN.out) (by rw [← HN.out]; exact h0) (by rw [← HN.out]; exact hl) (by rw [← HN.out]; exact hC) HIN.out
        rw [← HN.out] at hcall
        clear hints hC
        go_wp2_with fail
        refine hcall.mono ?_
        rintro e w2 ⟨fin, d, v2, rfl, hints2, hfl2, hC2, hlo, hb3⟩
        obtain ⟨g6, cap6, rfl⟩ := hints2.formN hfl2 h0
        have hcd : m2 ≤ d := Nat.le_trans HCF.out hlo
        have hdn := hC2.le
        have hbox2 : w2.heap[w.heap.size]? = some (.cells #[vo2, .int .i64 (m2 : Int)] 55 (0, 0)) := (hb3.block _ (by omega)).trans HBX.out
        have hres2 : w2.heap[w.heap.size + 1]? = some (.cells #[.slice none 0 0, .int .i64 0] 55 (0, 0)) := (hb3.block _ (by omega)).trans HRS.out
        have hb4 : Below w.heap.size w w2 := hb2.trans (hb3.mono (by omega))
        have fx0 := blk_free hbox2 0
        have fx1 := blk_free hbox2 1
        have z0 := blk_cell hbox2 0 _ rfl
        have z1 := blk_cell hbox2 1 _ rfl
        simp only [List.getElem_toArray, List.getElem_cons_zero, List.getElem_cons_succ] at z0 z1
        have HBX2 : Hid _ := hbox2
        have HRS2 : Hid _ := hres2
        have HI2 : Hid (Ints w2 (.slice (some ⟨g6, 0, none⟩) n cap6) fin) := hints2
        have HC2 : Hid (Cl fin n d) := hC2
        clear hcall hints2 hC2 hlo hbox2 hres2 x0 x1
        go_wp2
        go_roundw
        case rel =>
          refine ⟨1 + 1, fin, d, .slice (some ⟨g6, 0, none⟩) n cap6, by omega, rfl, ?_, ?_, ?_, hfl2, HC2.out, by omega, ?_⟩
          · exact blk_set (blk_set HBX2.out 0 _) 1 _
          · exact blk_other (blk_other HRS2.out _ _ (by omega)) _ _ (by omega)
          · exact (HI2.out.apart HBX2.out 0 _).apart (blk_set HBX2.out 0 _) 1 _
          · exact (hb4.setCell (p := ⟨w.heap.size, 0, none⟩) (Nat.le_refl _) _).setCell (p := ⟨w.heap.size, 1, none⟩) (Nat.le_refl _) _
        case measure => simp [intOf]
      | 2, _ =>
        have hcall := split2_any cl2 rs m2 vo2 (.slice (some ⟨g, 0, none⟩) n cap) wr hints (HNX.out wr hb2) (hcl2.trans HN.out) (by rw [← HN.out]; exact h0) (by rw [← HN.out]; exact hl) (by rw [← HN.out]; exact hC) HIN.out
        rw [← HN.out] at hcall
        clear hints hC
        go_wp2_with fail
        refine hcall.mono ?_
        rintro e w2 ⟨fin, d, v2, rfl, hints2, hfl2, hC2, hlo, hb3⟩
        obtain ⟨g6, cap6, rfl⟩ := hints2.formN hfl2 h0
        have hcd : m2 ≤ d := Nat.le_trans HCF.out hlo
        have hdn := hC2.le
        have hbox2 : w2.heap[w.heap.size]? = some (.cells #[vo2, .int .i64 (m2 : Int)] 55 (0, 0)) := (hb3.block _ (by omega)).trans HBX.out
        have hres2 : w2.heap[w.heap.size + 1]? = some (.cells #[.slice none 0 0, .int .i64 0] 55 (0, 0)) := (hb3.block _ (by omega)).trans HRS.out
        have hb4 : Below w.heap.size w w2 := hb2.trans (hb3.mono (by omega))
        have fx0 := blk_free hbox2 0
        have fx1 := blk_free hbox2 1
        have z0 := blk_cell hbox2 0 _ rfl
        have z1 := blk_cell hbox2 1 _ rfl
        simp only [List.getElem_toArray, List.getElem_cons_zero, List.getElem_cons_succ] at z0 z1
        have HBX2 : Hid _ := hbox2
        have HRS2 : Hid _ := hres2
        have HI2 : Hid (Ints w2 (.slice (some ⟨g6, 0, none⟩) n cap6) fin) := hints2
        have HC2 : Hid (Cl fin n d) := hC2
        clear hcall hints2 hC2 hlo hbox2 hres2 x0 x1
        go_wp2
        go_roundw
        case rel =>
          refine ⟨2 + 1, fin, d, .slice (some ⟨g6, 0, none⟩) n cap6, by omega, rfl, ?_, ?_, ?_, hfl2, HC2.out, by omega, ?_⟩
          · exact blk_set (blk_set HBX2.out 0 _) 1 _
          · exact blk_other (blk_other HRS2.out _ _ (by omega)) _ _ (by omega)
          · exact (HI2.out.apart HBX2.out 0 _).apart (blk_set HBX2.out 0 _) 1 _
          · exact (hb4.setCell (p := ⟨w.heap.size, 0, none⟩) (Nat.le_refl _) _).setCell (p := ⟨w.heap.size, 1, none⟩) (Nat.le_refl _) _
        case measure => simp [intOf]
      | 3, _ =>
        have hcall := split3_any cl2 rs m2 vo2 (.slice (some ⟨g, 0, none⟩) n cap) wr hints (HNX.out wr hb2) (hcl2.trans HN.out) (by rw [← HN.out]; exact h0) (by rw [← HN.out]; exact hl) (by rw [← HN.out]; exact hC) HIN.out
        rw [← HN.out] at hcall
        clear hints hC
        go_wp2_with fail
        refine hcall.mono ?_
        rintro e w2 ⟨fin, d, v2, rfl, hints2, hfl2, hC2, hlo, hb3⟩
        obtain ⟨g6, cap6, rfl⟩ := hints2.formN hfl2 h0
        have hcd : m2 ≤ d := Nat.le_trans HCF.out hlo
        have hdn := hC2.le
        have hbox2 : w2.heap[w.heap.size]? = some (.cells #[vo2, .int .i64 (m2 : Int)] 55 (0, 0)) := (hb3.block _ (by omega)).trans HBX.out
        have hres2 : w2.heap[w.heap.size + 1]? = some (.cells #[.slice none 0 0, .int .i64 0] 55 (0, 0)) := (hb3.block _ (by omega)).trans HRS.out
        have hb4 : Below w.heap.size w w2 := hb2.trans (hb3.mono (by omega))
        have fx0 := blk_free hbox2 0
        have fx1 := blk_free hbox2 1
        have z0 := blk_cell hbox2 0 _ rfl
        have z1 := blk_cell hbox2 1 _ rfl
        simp only [List.getElem_toArray, List.getElem_cons_zero, List.getElem_cons_succ] at z0 z1
        have HBX2 : Hid _ := hbox2
        have HRS2 : Hid _ := hres2
        have HI2 : Hid (Ints w2 (.slice (some ⟨g6, 0, none⟩) n cap6) fin) := hints2
        have HC2 : Hid (Cl fin n d) := hC2
        clear hcall hints2 hC2 hlo hbox2 hres2 x0 x1
        go_wp2
        go_roundw
        case rel =>
          refine ⟨3 + 1, fin, d, .slice (some ⟨g6, 0, none⟩) n cap6, by omega, rfl, ?_, ?_, ?_, hfl2, HC2.out, by omega, ?_⟩
          · exact blk_set (blk_set HBX2.out 0 _) 1 _
          · exact blk_other (blk_other HRS2.out _ _ (by omega)) _ _ (by omega)
          · exact (HI2.out.apart HBX2.out 0 _).apart (blk_set HBX2.out 0 _) 1 _
          · exact (hb4.setCell (p := ⟨w.heap.size, 0, none⟩) (Nat.le_refl _) _).setCell (p := ⟨w.heap.size, 1, none⟩) (Nat.le_refl _) _
        case measure => simp [intOf]
      | 4, _ =>
        obtain ⟨g6, cap6, rfl⟩ := hints.formN hcl2 h0
        have HI2 : Hid (Ints wr (.slice (some ⟨g6, 0, none⟩) n cap6) cl2) := hints
        have HC2 : Hid (Cl cl2 n m2) := hC
        clear hints hC
        by_cases hd : m2 = m
        · have hdi : ((m2 : Int) == (m : Int)) = true := by simp [hd]
          have y0 := blk_cell HRS.out 0 _ rfl
          have y1 := blk_cell HRS.out 1 _ rfl
          have fy0 := blk_free HRS.out 0
          have fy1 := blk_free HRS.out 1
          simp only [List.getElem_toArray, List.getElem_cons_zero, List.getElem_cons_succ] at y0 y1
          clear hd
          go_wp2
          refine bodyPost_ret (v := .agg #[.slice (some ⟨g6, 0, none⟩) n cap6, .int .i64 (m2 : Int)]) (by simp [results, Tryd.results26, go_sem, y0, y1]) rfl ?_
          refine ⟨cl2, m2, .slice (some ⟨g6, 0, none⟩) n cap6, rfl, ?_, hcl2, HC2.out, Nat.zero_le _, ?_⟩
          · exact (HI2.out.apart HRS.out 0 _).apart (blk_set HRS.out 0 _) 1 _
          · exact (hb2.setCell (p := ⟨w.heap.size + 1, 0, none⟩) (by simp) _).setCell (p := ⟨w.heap.size + 1, 1, none⟩) (by simp) _
        · have hdi : ((m2 : Int) == (m : Int)) = false := by
            rw [beq_eq_false_iff_ne]
            omega
          go_wp2
          go_roundw
          case rel => exact ⟨cl2, m2, .slice (some ⟨g6, 0, none⟩) n cap6, HBX.out, HRS.out, HI2.out, hcl2, HC2.out, hb2⟩
          case measure => exact c_meas HBOX.out HBX.out (by omega) hmn2
end Go.Proofs.YtmbapmbpnnaanabDoor
