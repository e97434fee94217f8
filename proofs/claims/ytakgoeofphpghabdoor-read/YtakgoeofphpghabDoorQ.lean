import Derived.Test.YtakgoeofphpghabDoorN
import Derived.Test.YtakgoeofphpghabDoorO
namespace Go.Proofs.YtakgoeofphpghabDoor
open Go.RowKit

theorem icells_getD (xs : List Nat) (i : Nat) (h : i < xs.length) : xs[i]? = some (xs.getD i 0) := by
  rw [List.getD_eq_getElem?_getD, List.getElem?_eq_getElem h]; rfl

/-- What a round of classes gives: the classes' slice, their number. -/
def ClPost (n lo : Nat) (w : World) (e : Ending) (w' : World) : Prop :=
  ∃ (fin : List Nat) (c : Nat) (v : Value), e = .returned (.tuple #[v, .int .i64 (c : Int)]) ∧ Ints w' v fin ∧ fin.length = n ∧ Cl fin n c ∧ lo ≤ c ∧ Below w.heap.size w w'

set_option maxHeartbeats 2000000 in
set_option maxRecDepth 100000 in
theorem classesByNext_any (v u : Value) (sts : List St) (cls : List Nat) (w : World) (hst : Sts w v sts) (hcl : Ints w u cls) (hlen : cls.length = sts.length) (h0 : 0 < sts.length) (hl : sts.length ≤ 200) (hin : Within sts) :
    Calls Tryd.prog 22 #[v, u] w fun e w' => ClPost sts.length (firsts cls sts.length) w e w' := by
  have hal := fun (wx : World) (hb : Below w.heap.size w wx) (i j : Nat) (hi : i < sts.length) (hj : j < sts.length) => areAlike_any v u sts cls wx (hst.below hb (Nat.le_refl _)) (hcl.below hb (Nat.le_refl _)) hlen hl hin i j hi hj
  obtain ⟨g, cap, rfl, hg, hcap⟩ := hst.form h0
  obtain ⟨n, hn⟩ : ∃ n, n = sts.length := ⟨_, rfl⟩
  rw [← hn] at h0 hl hcap hst hal hlen ⊢
  have HAL : Hid _ := hal
  have hmk := make_ints n hl
  clear hn hst hcl hin hal
  go_enter Tryd.func22, Tryd.ntmps22
  go_wp2
  clear hmk
  go_loopw [7, 15] (fun cc ii wr => ∃ (fin : List Nat) (i c : Nat), i ≤ n ∧ ii = .int .i64 (i : Int) ∧ cc = .int .i64 (c : Int) ∧ fin.length = n ∧ Cl fin i c ∧ firsts cls i ≤ c ∧ wr.heap[w.heap.size]? = some (.cells (icells fin) 3 (0, 0)) ∧ Below w.heap.size w wr) (fun _ ii _ => n - (intOf ii).toNat)
  case atStart => exact ⟨List.replicate n 0, 0, 0, by omega, rfl, rfl, by simp, Cl.start _, Nat.le_refl _, heap_alloc_new w _, (Below.refl _ _).alloc (Nat.le_refl _) _⟩
  case round =>
    obtain ⟨fin, i, c, hi, rfl, rfl, hfl, hC, hF, hblk, hb⟩ := hrel
    have hci := hC.le
    have HC : Hid (Cl fin i c) := hC
    have HF : Hid (firsts cls i ≤ c) := hF
    have hszr : w.heap.size < wr.heap.size := (Array.getElem?_eq_some_iff.1 hblk).1
    by_cases hlt : i < n
    · have cx := blk_cell hblk i _ (icells_get fin i _ (icells_getD fin i (by omega)))
      have fx := blk_free hblk i
      have hset := blk_set hblk i (.int .i64 (c : Int))
      rw [icells_set] at hset
      have HSET : Hid _ := hset
      have hb' := hb.setCell (p := ⟨w.heap.size, i, none⟩) (Nat.le_refl _) (.int .i64 (c : Int))
      have HB' : Hid _ := hb'
      clear hset hblk hC hF hb'
      go_wp2
      go_loopw [9] (fun jj wx => ∃ (j : Nat), j ≤ i ∧ jj = .int .i64 (j : Int) ∧ wx.heap[w.heap.size]? = some (.cells (icells (fin.set i c)) 3 (0, 0)) ∧ Below w.heap.size w wx) (fun jj _ => i - (intOf jj).toNat)
      case atStart => exact ⟨0, by omega, rfl, HSET.out, HB'.out⟩
      case round =>
        obtain ⟨j, hj, rfl, hblk, hb2⟩ := hrel
        have hl2 : (fin.set i c).length = n := by simp [hfl]
        clear cx fx HSET HB'
        have ci := blk_cell hblk i _ (icells_get _ i _ (icells_getD (fin.set i c) i (by omega)))
        rw [getD_set_eq fin i c (by omega)] at ci
        have fi := blk_free hblk i
        have HB2 : Hid _ := hblk
        by_cases hji : j < i
        · have cj := blk_cell hblk j _ (icells_get _ j _ (icells_getD (fin.set i c) j (by omega)))
          rw [getD_set_ne fin i j c (by omega)] at cj
          have hjc := HC.out.lt j hji
          obtain ⟨x, hx⟩ : ∃ x, x = fin.getD j 0 := ⟨_, rfl⟩
          rw [← hx] at cj hjc
          have HX : Hid (x = fin.getD j 0) := hx
          clear hblk hx
          go_wp2_with fail
          refine (HAL.out wr hb2 i j hlt (by omega)).mono ?_
          rintro e w1 ⟨⟨b, rfl, hbt⟩, kk, rfl⟩
          cases b with
          | true =>
            have hxc : ((x : Int) == (c : Int)) = false := by
              rw [beq_eq_false_iff_ne]
              omega
            have HO := firsts_old cls i j hji (by omega) (hbt rfl)
            have HO2 : Hid (firsts cls (i + 1) = firsts cls i) := HO
            have HC2 : Hid (Cl (fin.set i x) (i + 1) c) := by
              have := HC.out.old (by omega) hji
              rw [← HX.out] at this
              exact this
            have hset2 := blk_set (w := wr.drewN kk) HB2.out i (.int .i64 (x : Int))
            rw [icells_set, List.set_set] at hset2
            have HSET2 : Hid _ := hset2
            clear hset2 HO hbt
            go_wp2
            go_roundw
            case rel =>
              refine ⟨fin.set i x, i + 1, c, by omega, by go_num, rfl, by simp [hfl], HC2.out, by rw [HO2.out]; exact HF.out, HSET2.out, ?_⟩
              exact (below_dN hb2 kk).setCell (Nat.le_refl _) _
            case measure => simp [intOf]; omega
          | false =>
            clear hbt
            go_wp2
            go_roundw
            case rel => exact ⟨j + 1, by omega, by go_num, HB2.out, below_dN hb2 _⟩
            case measure => simp [intOf]; omega
        · clear hblk
          have HC2 : Hid (Cl (fin.set i c) (i + 1) (c + 1)) := HC.out.fresh (by omega)
          have HF2 : Hid (firsts cls (i + 1) ≤ c + 1) := by
            show firsts cls (i + 1) ≤ c + 1
            have := firsts_one cls i
            have := HF.out
            omega
          go_wp2
          go_roundw
          case rel => exact ⟨fin.set i c, i + 1, c + 1, by omega, by go_num, by go_num, by simp [hfl], HC2.out, HF2.out, HB2.out, hb2⟩
          case measure => simp [intOf]; omega
    · obtain rfl : i = n := by omega
      have HB2 : Hid _ := hblk
      clear hblk hC hF
      go_wp2
      go_ret2
      have := Ints.of_block HB2.out (by omega)
      rw [hfl] at this
      exact ⟨fin, c, _, rfl, this, hfl, HC.out, HF.out, hb⟩
end Go.Proofs.YtakgoeofphpghabDoor
