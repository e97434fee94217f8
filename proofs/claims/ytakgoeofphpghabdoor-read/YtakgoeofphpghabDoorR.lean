import Derived.Test.YtakgoeofphpghabDoorT
namespace Go.Proofs.YtakgoeofphpghabDoor
open Go.RowKit

set_option maxHeartbeats 2000000 in
set_option maxRecDepth 100000 in
theorem classesBySaid_any (v : Value) (sts : List St) (w : World) (hst : Sts w v sts) (h0 : 0 < sts.length) (hl : sts.length ≤ 200) :
    Calls Tryd.prog 21 #[v] w fun e w' => ClPost sts.length 0 w e w' := by
  obtain ⟨g, cap, rfl, hg, hcap⟩ := hst.form h0
  have hnine := fun (wx : World) (hb : Below w.heap.size w wx) (i : Nat) (q : St) (hq : sts[i]? = some q) => (hst.below hb (Nat.le_refl _)).nine i q hq
  obtain ⟨n, hn⟩ : ∃ n, n = sts.length := ⟨_, rfl⟩
  have hget : ∀ i, i < n → ∃ q, sts[i]? = some q := fun i hi => ⟨sts[i]'(by omega), List.getElem?_eq_getElem _⟩
  rw [← hn] at h0 hl hcap hst ⊢
  have HNINE : Hid _ := hnine
  have HGET : Hid _ := hget
  have hmk := make_ints n hl
  clear hn hst hnine hget
  go_enter Tryd.func21, Tryd.ntmps21
  go_wp2
  clear hmk
  go_loopw [5, 15] (fun cc ii wr => ∃ (fin : List Nat) (i c : Nat), i ≤ n ∧ ii = .int .i64 (i : Int) ∧ cc = .int .i64 (c : Int) ∧ fin.length = n ∧ Cl fin i c ∧ wr.heap[w.heap.size]? = some (.cells (icells fin) 3 (0, 0)) ∧ Below w.heap.size w wr) (fun _ ii _ => n - (intOf ii).toNat)
  case atStart => exact ⟨List.replicate n 0, 0, 0, by omega, rfl, rfl, by simp, Cl.start _, heap_alloc_new w _, (Below.refl _ _).alloc (Nat.le_refl _) _⟩
  case round =>
    obtain ⟨fin, i, c, hi, rfl, rfl, hfl, hC, hblk, hb⟩ := hrel
    have hci := hC.le
    have HC : Hid (Cl fin i c) := hC
    have hszr : w.heap.size < wr.heap.size := (Array.getElem?_eq_some_iff.1 hblk).1
    by_cases hlt : i < n
    · have cx := blk_cell hblk i _ (icells_get fin i _ (icells_getD fin i (by omega)))
      have fx := blk_free hblk i
      obtain ⟨q, hq⟩ := HGET.out i hlt
      obtain ⟨S0, S1, S2, S3, S4, N0, N1, N2, N3, -, a0, a1, a2, a3, a4, a5, a6, a7, a8⟩ := HNINE.out wr hb i q hq
      have hset := blk_set hblk i (.int .i64 (c : Int))
      rw [icells_set] at hset
      have HSET : Hid _ := hset
      have HBK : Hid _ := hblk
      have hii : (i : Int) ≤ (cap : Int) := by omega
      clear hset hblk hC hq
      have HQB : Hid (∀ o, ((wr.setCell ⟨w.heap.size, i, none⟩ (.int .i64 (c : Int))).alloc o).heap[wr.heap.size]? = some o) := fun o => by
        have := heap_alloc_new (wr.setCell ⟨w.heap.size, i, none⟩ (.int .i64 (c : Int))) o
        simpa using this
      have HFB : Hid (∀ o, ((wr.setCell ⟨w.heap.size, i, none⟩ (.int .i64 (c : Int))).alloc o).heap[w.heap.size]? = some (.cells (icells (fin.set i c)) 3 (0, 0))) := fun o => by
        rw [Below.heap_alloc _ _ _ (by simp; omega)]; exact HSET.out
      have HB' : Hid (∀ o, Below w.heap.size w ((wr.setCell ⟨w.heap.size, i, none⟩ (.int .i64 (c : Int))).alloc o)) := fun o => (hb.setCell (p := ⟨w.heap.size, i, none⟩) (Nat.le_refl _) _).alloc (by simp; omega) o
      go_wp2
      obtain ⟨H, hH⟩ : ∃ H, H = wr.heap.size := ⟨_, rfl⟩
      have hHw : w.heap.size < H := by omega
      rw [← hH] at HQB
      rw [← hH]
      clear hH
      go_loopw [28] (fun jj wx => ∃ (j : Nat), j ≤ i ∧ jj = .int .i64 (j : Int) ∧ wx.heap[w.heap.size]? = some (.cells (icells (fin.set i c)) 3 (0, 0)) ∧
          wx.heap[H]? = some (.cells #[.string S0, .string S1, .string S2, .string S3, .string S4, .int .i64 (N0 : Int), .int .i64 (N1 : Int), .int .i64 (N2 : Int), .int .i64 (N3 : Int)] 38 (0, 0)) ∧ Below w.heap.size w wx) (fun jj _ => i - (intOf jj).toNat)
      case atStart => exact ⟨0, by omega, rfl, HFB.out _, HQB.out _, HB'.out _⟩
      case round =>
        obtain ⟨j, hj, rfl, hblk, hqb, hb2⟩ := hrel
        have hl2 : (fin.set i c).length = n := by simp [hfl]
        clear cx fx HFB HQB HB' HSET HBK a0 a1 a2 a3 a4 a5 a6 a7 a8
        have ci := blk_cell hblk i _ (icells_get _ i _ (icells_getD (fin.set i c) i (by omega)))
        rw [getD_set_eq fin i c (by omega)] at ci
        have fi := blk_free hblk i
        have HB2 : Hid _ := hblk
        have HQ2 : Hid _ := hqb
        have q0 := blk_cell hqb 0 _ rfl
        have q1 := blk_cell hqb 1 _ rfl
        have q2 := blk_cell hqb 2 _ rfl
        have q3 := blk_cell hqb 3 _ rfl
        have q4 := blk_cell hqb 4 _ rfl
        simp only [List.getElem_toArray, List.getElem_cons_zero, List.getElem_cons_succ] at q0 q1 q2 q3 q4
        have hqs := (Array.getElem?_eq_some_iff.1 hqb).1
        have hfs := (Array.getElem?_eq_some_iff.1 hblk).1
        have hfn : ¬ w.heap.size = wr.heap.size := by omega
        by_cases hji : j < i
        · have cj := blk_cell hblk j _ (icells_get _ j _ (icells_getD (fin.set i c) j (by omega)))
          rw [getD_set_ne fin i j c (by omega)] at cj
          have hjc := HC.out.lt j hji
          obtain ⟨x, hx⟩ : ∃ x, x = fin.getD j 0 := ⟨_, rfl⟩
          rw [← hx] at cj hjc
          have HX : Hid (x = fin.getD j 0) := hx
          obtain ⟨p, hp⟩ := HGET.out j (by omega)
          obtain ⟨T0, T1, T2, T3, T4, M0, M1, M2, M3, -, b0, b1, b2, b3, b4, b5, b6, b7, b8⟩ := HNINE.out wr hb2 j p hp
          obtain ⟨bb, hbb⟩ := eqArr T1 T2 T3 T4 S1 S2 S3 S4
          have hFA : ∀ o, (wr.alloc o).heap[w.heap.size]? = some (.cells (icells (fin.set i c)) 3 (0, 0)) := fun o => by rw [Below.heap_alloc _ _ _ (by omega)]; exact HB2.out
          have hQA : ∀ o, (wr.alloc o).heap[H]? = some (.cells #[.string S0, .string S1, .string S2, .string S3, .string S4, .int .i64 (N0 : Int), .int .i64 (N1 : Int), .int .i64 (N2 : Int), .int .i64 (N3 : Int)] 38 (0, 0)) := fun o => by rw [Below.heap_alloc _ _ _ (by omega)]; exact HQ2.out
          have hBA : ∀ o, Below w.heap.size w (wr.alloc o) := fun o => hb2.alloc (by omega) o
          have HFA : Hid _ := hFA
          have HQA : Hid _ := hQA
          have HBA : Hid _ := hBA
          clear hblk hx hqb hp hFA hQA hBA
          by_cases hT : T0.toList = S0.toList
          · have hTb : (T0.toList == S0.toList) = true := by rw [hT]; simp
            cases bb with
            | true =>
              have hxc : ((x : Int) == (c : Int)) = false := by
                rw [beq_eq_false_iff_ne]
                omega
              have HC2 : Hid (Cl (fin.set i x) (i + 1) c) := by
                have := HC.out.old (by omega) hji
                rw [← HX.out] at this
                exact this
              have HSET2 : Hid (∀ o, ((wr.setCell ⟨w.heap.size, i, none⟩ (.int .i64 (x : Int))).alloc o).heap[w.heap.size]? = some (.cells (icells (fin.set i x)) 3 (0, 0))) := fun o => by
                have := blk_set HB2.out i (.int .i64 (x : Int))
                rw [icells_set, List.set_set] at this
                rw [Below.heap_alloc _ _ _ (by simp; omega)]
                exact this
              have HBX : Hid (∀ o, Below w.heap.size w ((wr.setCell ⟨w.heap.size, i, none⟩ (.int .i64 (x : Int))).alloc o)) := fun o => (hb2.setCell (p := ⟨w.heap.size, i, none⟩) (Nat.le_refl _) _).alloc (by simp; omega) o
              go_wp2
              go_roundw
              case rel => exact ⟨fin.set i x, i + 1, c, by omega, by go_num, rfl, by simp [hfl], HC2.out, HSET2.out _, HBX.out _⟩
              case measure => simp [intOf]; omega
            | false =>
              go_wp2
              go_roundw
              case rel => exact ⟨j + 1, by omega, by go_num, HFA.out _, HQA.out _, HBA.out _⟩
              case measure => simp [intOf]; omega
          · have hTb : (T0.toList == S0.toList) = false := by simpa using hT
            clear hbb
            go_wp2
            go_roundw
            case rel => exact ⟨j + 1, by omega, by go_num, HFA.out _, HQA.out _, HBA.out _⟩
            case measure => simp [intOf]; omega
        · clear hblk hqb
          have HC2 : Hid (Cl (fin.set i c) (i + 1) (c + 1)) := HC.out.fresh (by omega)
          go_wp2
          go_roundw
          case rel => exact ⟨fin.set i c, i + 1, c + 1, by omega, by go_num, by go_num, by simp [hfl], HC2.out, HB2.out, hb2⟩
          case measure => simp [intOf]; omega
    · obtain rfl : i = n := by omega
      have HB2 : Hid _ := hblk
      clear hblk hC
      go_wp2
      go_ret2
      have := Ints.of_block HB2.out (by omega)
      rw [hfl] at this
      exact ⟨fin, c, _, rfl, this, hfl, HC.out, Nat.zero_le _, hb⟩
end Go.Proofs.YtakgoeofphpghabDoor
