import Derived.Test.YtmbapmbpnnaanabDoorT
namespace Go.Proofs.YtmbapmbpnnaanabDoor
open Go.RowKit

/-- The blocks of 'bySaid' (S: the first). -/
structure Bk (wr : World) (S : Nat) (fin : List Nat) (n c : Nat) : Prop where
  res : wr.heap[S]? = some (.cells #[.slice none 0 0, .int .i64 0] 55 (0, 0))
  fin : wr.heap[S + 1]? = some (.cells (icells fin) 3 (0, 0))
  cur : wr.heap[S + 1 + 1]? = some (.cells #[.slice (some ⟨S + 1, 0, none⟩) n n, .int .i64 (c : Int)] 55 (0, 0))
section
variable {w : World} {S : Nat} {fin : List Nat} {n c : Nat}
theorem Bk.lt (h : Bk w S fin n c) : S + 2 < w.heap.size := (Array.getElem?_eq_some_iff.1 h.cur).1
theorem Bk.alloc (h : Bk w S fin n c) (o : Obj) : Bk (w.alloc o) S fin n c := by
  have hl := h.lt
  exact ⟨(Below.heap_alloc _ _ _ (by omega)).trans h.res, (Below.heap_alloc _ _ _ (by omega)).trans h.fin, (Below.heap_alloc _ _ _ (by omega)).trans h.cur⟩
theorem Bk.count (h : Bk w S fin n c) (d : Nat) : Bk (w.setCell ⟨S + 1 + 1, 1, none⟩ (.int .i64 (d : Int))) S fin n d :=
  ⟨blk_other h.res _ _ (by omega), blk_other h.fin _ _ (by omega), blk_set h.cur 1 _⟩
theorem Bk.put (h : Bk w S fin n c) (i x : Nat) : Bk (w.setCell ⟨S + 1, i, none⟩ (.int .i64 (x : Int))) S (fin.set i x) n c :=
  ⟨blk_other h.res _ _ (by omega), by rw [← icells_set]; exact blk_set h.fin i _, blk_other h.cur _ _ (by omega)⟩
theorem Bk.drew (h : Bk w S fin n c) : Bk w.drew S fin n c := ⟨h.res, h.fin, h.cur⟩
theorem Bk.drewN (h : Bk w S fin n c) (k : Nat) : Bk (w.drewN k) S fin n c := ⟨h.res, h.fin, h.cur⟩
theorem Bk.start (w : World) (n : Nat) : Bk (((w.alloc (.cells #[.slice none 0 0, .int .i64 0] 55)).alloc (.cells (icells (List.replicate n 0)) 3)).alloc (.cells #[.slice (some ⟨w.heap.size + 1, 0, none⟩) n n, .int .i64 0] 55)) w.heap.size (List.replicate n 0) n 0 := by
  constructor
  · rw [Below.heap_alloc _ _ _ (by simp; omega), Below.heap_alloc _ _ _ (by simp)]; exact heap_alloc_new w _
  · rw [Below.heap_alloc _ _ _ (by simp)]; simpa using heap_alloc_new (w.alloc (.cells #[.slice none 0 0, .int .i64 0] 55)) (.cells (icells (List.replicate n 0)) 3)
  · simpa using heap_alloc_new ((w.alloc (.cells #[.slice none 0 0, .int .i64 0] 55)).alloc (.cells (icells (List.replicate n 0)) 3)) (.cells #[.slice (some ⟨w.heap.size + 1, 0, none⟩) n n, .int .i64 0] 55)
end

set_option maxHeartbeats 2000000 in
set_option maxRecDepth 100000 in
theorem bySaid_any (v : Value) (sts : List St) (w : World) (hst : Sts w v sts) (h0 : 0 < sts.length) (hl : sts.length ≤ 200) :
    Calls Tryd.prog 24 #[v] w fun e w' => ClPost sts.length 0 w e w' := by
  obtain ⟨g, cap, rfl, hg, hcap⟩ := hst.form h0
  have hnine := fun (wx : World) (hb : Below w.heap.size w wx) (i : Nat) (q : St) (hq : sts[i]? = some q) => (hst.below hb (Nat.le_refl _)).nine i q hq
  obtain ⟨n, hn⟩ : ∃ n, n = sts.length := ⟨_, rfl⟩
  have hget : ∀ i, i < n → ∃ q, sts[i]? = some q := fun i hi => ⟨sts[i]'(by omega), List.getElem?_eq_getElem _⟩
  rw [← hn] at h0 hl hcap hst ⊢
  have HNINE : Hid _ := hnine
  have HGET : Hid _ := hget
  have hmk := make_ints n hl
  clear hn hst hnine hget
  go_enter Tryd.func24, Tryd.ntmps24
  go_wp2
  clear hmk
  go_loopw [14] (fun ii wr => ∃ (fin : List Nat) (i c : Nat), i ≤ n ∧ ii = .int .i64 (i : Int) ∧ fin.length = n ∧ Cl fin i c ∧ Bk wr w.heap.size fin n c ∧ Below w.heap.size w wr) (fun ii _ => n - (intOf ii).toNat)
  case atStart => exact ⟨List.replicate n 0, 0, 0, by omega, rfl, by simp, Cl.start _, Bk.start w n, (((Below.refl _ _).alloc (Nat.le_refl _) _).alloc (by simp) _).alloc (by simp; try omega) _⟩
  case round =>
    obtain ⟨fin, i, c, hi, rfl, hfl, hC, hbk, hb⟩ := hrel
    have hci := hC.le
    have HC : Hid (Cl fin i c) := hC
    have hS2 := hbk.lt
    have k0 := blk_cell hbk.cur 0 _ rfl
    have k1 := blk_cell hbk.cur 1 _ rfl
    simp only [List.getElem_toArray, List.getElem_cons_zero, List.getElem_cons_succ] at k0 k1
    have HBK : Hid (Bk wr w.heap.size fin n c) := hbk
    by_cases hlt : i < n
    · have cx := blk_cell hbk.fin i _ (icells_get fin i _ (icells_getD fin i (by omega)))
      have fx := blk_free hbk.fin i
      have cxA : ∀ o, (wr.alloc o).cell? ⟨w.heap.size + 1, i, none⟩ = some (.int .i64 ((fin.getD i 0 : Nat) : Int)) := fun o => cell_alloc cx o
      have fxA : ∀ o, (wr.alloc o).frozen? ⟨w.heap.size + 1, i, none⟩ = false := fun o => blk_free (hbk.alloc o).fin i
      obtain ⟨q, hq⟩ := HGET.out i hlt
      obtain ⟨S0, S1, S2, S3, S4, N0, N1, N2, N3, -, a0, a1, a2, a3, a4, a5, a6, a7, a8⟩ := HNINE.out wr hb i q hq
      have hii : (i : Int) ≤ (cap : Int) := by omega
      have hn1 : ¬ w.heap.size + 1 = wr.heap.size := by omega
      have hn2 : ¬ w.heap.size + 1 + 1 = wr.heap.size := by omega
      have HQB : Hid (∀ o, ((wr.alloc o).setCell ⟨w.heap.size + 1, i, none⟩ (.int .i64 (c : Int))).heap[wr.heap.size]? = some o) := fun o => blk_other (heap_alloc_new wr o) _ _ (by omega)
      have HFB : Hid (∀ o, Bk ((wr.alloc o).setCell ⟨w.heap.size + 1, i, none⟩ (.int .i64 (c : Int))) w.heap.size (fin.set i c) n c) := fun o => (HBK.out.alloc o).put i c
      have HB' : Hid (∀ o, Below w.heap.size w ((wr.alloc o).setCell ⟨w.heap.size + 1, i, none⟩ (.int .i64 (c : Int)))) := fun o => (hb.alloc (by omega) o).setCell (p := ⟨w.heap.size + 1, i, none⟩) (by simp) _
      clear hbk hC hq
      go_wp2
      obtain ⟨H, hH⟩ : ∃ H, H = wr.heap.size := ⟨_, rfl⟩
      have hHw : w.heap.size + 2 < H := by omega
      rw [← hH] at HQB
      rw [← hH]
      clear hH
      go_loopw [29] (fun jj wx => ∃ (j : Nat), j ≤ i ∧ jj = .int .i64 (j : Int) ∧ Bk wx w.heap.size (fin.set i c) n c ∧
          wx.heap[H]? = some (.cells #[.string S0, .string S1, .string S2, .string S3, .string S4, .int .i64 (N0 : Int), .int .i64 (N1 : Int), .int .i64 (N2 : Int), .int .i64 (N3 : Int)] 38 (0, 0)) ∧ Below w.heap.size w wx) (fun jj _ => i - (intOf jj).toNat)
      case atStart => exact ⟨0, by omega, rfl, HFB.out _, HQB.out _, HB'.out _⟩
      case round =>
        obtain ⟨j, hj, rfl, hbk, hqb, hb2⟩ := hrel
        have hl2 : (fin.set i c).length = n := by simp [hfl]
        clear cx fx cxA fxA HFB HQB HB' a0 a1 a2 a3 a4 a5 a6 a7 a8 k0 k1 HBK hn1 hn2
        have HB2 : Hid (Bk wr w.heap.size (fin.set i c) n c) := hbk
        have HQ2 : Hid _ := hqb
        have hS3 := hbk.lt
        by_cases hji : j < i
        · have q0 := blk_cell hqb 0 _ rfl
          have q1 := blk_cell hqb 1 _ rfl
          have q2 := blk_cell hqb 2 _ rfl
          have q3 := blk_cell hqb 3 _ rfl
          have q4 := blk_cell hqb 4 _ rfl
          simp only [List.getElem_toArray, List.getElem_cons_zero, List.getElem_cons_succ] at q0 q1 q2 q3 q4
          have hqs := (Array.getElem?_eq_some_iff.1 hqb).1
          have hqn : ¬ H = wr.heap.size := by omega
          have hjc := HC.out.lt j hji
          obtain ⟨x, hx⟩ : ∃ x, x = fin.getD j 0 := ⟨_, rfl⟩
          rw [← hx] at hjc
          have HX : Hid (x = fin.getD j 0) := hx
          obtain ⟨p, hp⟩ := HGET.out j (by omega)
          obtain ⟨T0, T1, T2, T3, T4, M0, M1, M2, M3, -, b0, b1, b2, b3, b4, b5, b6, b7, b8⟩ := HNINE.out wr hb2 j p hp
          obtain ⟨bb, hbb⟩ := eqArr T1 T2 T3 T4 S1 S2 S3 S4
          have HFA : Hid (∀ o, Bk (wr.alloc o) w.heap.size (fin.set i c) n c) := fun o => HB2.out.alloc o
          have HQA : Hid (∀ o, (wr.alloc o).heap[H]? = some (.cells #[.string S0, .string S1, .string S2, .string S3, .string S4, .int .i64 (N0 : Int), .int .i64 (N1 : Int), .int .i64 (N2 : Int), .int .i64 (N3 : Int)] 38 (0, 0))) := fun o => by rw [Below.heap_alloc _ _ _ (by omega)]; exact HQ2.out
          have HBA : Hid (∀ o, Below w.heap.size w (wr.alloc o)) := fun o => hb2.alloc (by omega) o
          clear hx hqb hp hbk
          by_cases hT : T0.toList = S0.toList
          · have hTb : (T0.toList == S0.toList) = true := by rw [hT]; simp
            cases bb with
            | true =>
              have hxc : ((x : Int) == (c : Int)) = false := by
                rw [beq_eq_false_iff_ne]
                omega
              have HC2 : Hid (Cl (fin.set i x) (i + 1) c) := by
                have := HC.out.old (by omega) hji
                rw [← HX.out] at this
                exact this
              go_wp2
              generalize hwa : wr.alloc (Obj.cells #[.string T0, .string T1, .string T2, .string T3, .string T4, .int .i64 (M0 : Int), .int .i64 (M1 : Int), .int .i64 (M2 : Int), .int .i64 (M3 : Int)] 38) = wa
              have hba := HFA.out (Obj.cells #[.string T0, .string T1, .string T2, .string T3, .string T4, .int .i64 (M0 : Int), .int .i64 (M1 : Int), .int .i64 (M2 : Int), .int .i64 (M3 : Int)] 38)
              have hbl := HBA.out (Obj.cells #[.string T0, .string T1, .string T2, .string T3, .string T4, .int .i64 (M0 : Int), .int .i64 (M1 : Int), .int .i64 (M2 : Int), .int .i64 (M3 : Int)] 38)
              rw [hwa] at hba hbl
              clear hwa q0 q1 q2 q3 q4 b0 b1 b2 b3 b4 b5 b6 b7 b8 hbb HFA HQA HBA
              have k0 := blk_cell hba.cur 0 _ rfl
              simp only [List.getElem_toArray, List.getElem_cons_zero] at k0
              have cj := blk_cell hba.fin j _ (icells_get _ j _ (icells_getD (fin.set i c) j (by omega)))
              rw [getD_set_ne fin i j c (by omega), ← HX.out] at cj
              have ci := blk_cell hba.fin i _ (icells_get _ i _ (icells_getD (fin.set i c) i (by omega)))
              have fi := blk_free hba.fin i
              have hni : (i : Int) < (n : Int) := by omega
              have hnj : (j : Int) < (n : Int) := by omega
              have HWA : Hid (Bk wa w.heap.size (fin.set i c) n c) := hba
              clear hba
              go_region
              go_wp2
              generalize hwb : (wa.setCell ⟨w.heap.size + 1, i, none⟩ (.int .i64 (x : Int))).drew = wb
              have hbb : Bk wb w.heap.size (fin.set i x) n c := by
                rw [← hwb]
                have := (HWA.out.put i x).drew
                rw [List.set_set] at this
                exact this
              have hbl2 : Below w.heap.size w wb := by
                rw [← hwb]
                exact below_dr (hbl.setCell (p := ⟨w.heap.size + 1, i, none⟩) (by simp) _)
              clear hwb k0 cj ci fi HWA hbl
              have k0 := blk_cell hbb.cur 0 _ rfl
              have k1 := blk_cell hbb.cur 1 _ rfl
              simp only [List.getElem_toArray, List.getElem_cons_zero, List.getElem_cons_succ] at k0 k1
              have ci := blk_cell hbb.fin i _ (icells_get _ i _ (icells_getD (fin.set i x) i (by simp; omega)))
              rw [getD_set_eq fin i x (by omega)] at ci
              have HBB : Hid (Bk wb w.heap.size (fin.set i x) n c) := hbb
              clear hbb
              go_quiet (fail)
              go_wp2
              go_roundw
              case rel => exact ⟨fin.set i x, i + 1, c, by omega, by go_num, by simp [hfl], HC2.out, HBB.out.drewN _, below_dN hbl2 _⟩
              case measure => simp [intOf]; omega
            | false =>
              go_wp2
              go_roundw
              case rel => exact ⟨j + 1, by omega, by go_num, HFA.out _, HQA.out _, HBA.out _⟩
              case measure => simp [intOf]; omega
          · have hTb : (T0.toList == S0.toList) = false := by simpa using hT
            clear hbb
            go_wp2
            go_roundw
            case rel => exact ⟨j + 1, by omega, by go_num, HFA.out _, HQA.out _, HBA.out _⟩
            case measure => simp [intOf]; omega
        · have k0 := blk_cell hbk.cur 0 _ rfl
          have k1 := blk_cell hbk.cur 1 _ rfl
          have fk1 := blk_free hbk.cur 1
          simp only [List.getElem_toArray, List.getElem_cons_zero, List.getElem_cons_succ] at k0 k1
          have ci := blk_cell hbk.fin i _ (icells_get _ i _ (icells_getD (fin.set i c) i (by omega)))
          rw [getD_set_eq fin i c (by omega)] at ci
          have hni : (i : Int) < (n : Int) := by omega
          clear hbk hqb
          have HC2 : Hid (Cl (fin.set i c) (i + 1) (c + 1)) := HC.out.fresh (by omega)
          go_wp2
          go_quiet (fail)
          go_wp2
          go_roundw
          case rel =>
            refine ⟨fin.set i c, i + 1, c + 1, by omega, by go_num, by simp [hfl], HC2.out, ?_, ?_⟩
            · rw [show (c : Int) + 1 = ((c + 1 : Nat) : Int) by omega]
              exact (HB2.out.drewN _).count (c + 1)
            · exact (below_dN hb2 _).setCell (p := ⟨w.heap.size + 1 + 1, 1, none⟩) (by simp; omega) _
          case measure => simp [intOf]; omega
    · obtain rfl : i = n := by omega
      have y0 := blk_cell hbk.res 0 _ rfl
      have y1 := blk_cell hbk.res 1 _ rfl
      have fy0 := blk_free hbk.res 0
      have fy1 := blk_free hbk.res 1
      clear hbk hC
      go_wp2
      refine bodyPost_ret (v := .agg #[.slice (some ⟨w.heap.size + 1, 0, none⟩) i i, .int .i64 (c : Int)]) (by simp [results, Tryd.results24, go_sem, y0, y1]) rfl ?_
      refine ⟨fin, c, _, rfl, ?_, hfl, HC.out, Nat.zero_le _, (hb.setCell (p := ⟨w.heap.size, 0, none⟩) (by simp) _).setCell (p := ⟨w.heap.size, 1, none⟩) (by simp) _⟩
      have h3 := blk_other (q := w.heap.size) (blk_other (q := w.heap.size) HBK.out.fin 0 (.slice (some ⟨w.heap.size + 1, 0, none⟩) i i) (by omega)) 1 (.int .i64 (c : Int)) (by omega)
      have hin2 := Ints.of_block h3 (by omega)
      rw [hfl] at hin2
      exact hin2
end Go.Proofs.YtmbapmbpnnaanabDoor
