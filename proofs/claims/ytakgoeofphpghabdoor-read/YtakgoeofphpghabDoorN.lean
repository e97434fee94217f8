import Derived.Test.YtakgoeofphpghabDoorM
namespace Go.Proofs.YtakgoeofphpghabDoor
open Go.RowKit

set_option maxHeartbeats 2000000 in
set_option maxRecDepth 100000 in
theorem areAlike_any (v u : Value) (sts : List St) (cls : List Nat) (w : World) (hst : Sts w v sts) (hcl : Ints w u cls) (hlen : cls.length = sts.length) (hl : sts.length ≤ 200) (hin : Within sts) (i j : Nat) (hi : i < sts.length) (hj : j < sts.length) :
    Calls Tryd.prog 27 #[v, u, .int .i64 (i : Int), .int .i64 (j : Int)] w fun e w' => (∃ b : Bool, e = .returned (.bool b) ∧ (b = true → cls[i]? = cls[j]?)) ∧ ∃ k, w' = w.drewN k := by
  obtain ⟨g, cap, rfl, hg, hcap⟩ := hst.form (by omega)
  obtain ⟨c, cap2, rfl, hg2, hcap2⟩ := hcl.form (by omega)
  obtain ⟨q, hq⟩ : ∃ q, sts[i]? = some q := ⟨sts[i]'hi, List.getElem?_eq_getElem _⟩
  obtain ⟨p, hp⟩ : ∃ p, sts[j]? = some p := ⟨sts[j]'hj, List.getElem?_eq_getElem _⟩
  obtain ⟨S0, S1, S2, S3, S4, N0, N1, N2, N3, hS, a0, a1, a2, a3, a4, a5, a6, a7, a8⟩ := hst.nine i q hq
  obtain ⟨T0, T1, T2, T3, T4, M0, M1, M2, M3, hT, b0, b1, b2, b3, b4, b5, b6, b7, b8⟩ := hst.nine j p hp
  have hw1 : N0 < cls.length ∧ N1 < cls.length ∧ N2 < cls.length ∧ N3 < cls.length := by
    have hm := hin q (List.mem_of_getElem? hq)
    rw [← hS.2.2, ← hlen] at hm
    exact ⟨hm _ (by simp), hm _ (by simp), hm _ (by simp), hm _ (by simp)⟩
  have hw2 : M0 < cls.length ∧ M1 < cls.length ∧ M2 < cls.length ∧ M3 < cls.length := by
    have hm := hin p (List.mem_of_getElem? hp)
    rw [← hT.2.2, ← hlen] at hm
    exact ⟨hm _ (by simp), hm _ (by simp), hm _ (by simp), hm _ (by simp)⟩
  have getc : ∀ k, k < cls.length → ∃ x, w.cell? ⟨c, k, none⟩ = some (.int .i64 ((x : Nat) : Int)) ∧ cls[k]? = some x := fun k hk => ⟨cls[k], hcl.cell k _ (List.getElem?_eq_getElem hk), List.getElem?_eq_getElem hk⟩
  obtain ⟨xi, ci, ei⟩ := getc i (by omega)
  obtain ⟨xj, cj, ej⟩ := getc j (by omega)
  obtain ⟨x0, n0, -⟩ := getc N0 hw1.1
  obtain ⟨x1, n1, -⟩ := getc N1 hw1.2.1
  obtain ⟨x2, n2, -⟩ := getc N2 hw1.2.2.1
  obtain ⟨x3, n3, -⟩ := getc N3 hw1.2.2.2
  obtain ⟨y0, m0, -⟩ := getc M0 hw2.1
  obtain ⟨y1, m1, -⟩ := getc M1 hw2.2.1
  obtain ⟨y2, m2, -⟩ := getc M2 hw2.2.2.1
  obtain ⟨y3, m3, -⟩ := getc M3 hw2.2.2.2
  have HEQ : Hid (xi = xj → cls[i]? = cls[j]?) := fun h => by rw [ei, ej, h]
  rw [hlen] at hcap2 hw1 hw2
  obtain ⟨l0, l1, l2, l3⟩ := hw1
  obtain ⟨k0, k1, k2, k3⟩ := hw2
  obtain ⟨n, hn⟩ : ∃ n, n = sts.length := ⟨_, rfl⟩
  rw [hlen]
  rw [← hn] at hcap hcap2 hi hj hl l0 l1 l2 l3 k0 k1 k2 k3 ⊢
  have bi : (i : Int) < (n : Int) := by omega
  have bj : (j : Int) < (n : Int) := by omega
  have bl0 : (N0 : Int) < (n : Int) := by omega
  have bk0 : (M0 : Int) < (n : Int) := by omega
  have zl0 : (0 : Int) ≤ (N0 : Int) := by omega
  have zk0 : (0 : Int) ≤ (M0 : Int) := by omega
  have bl1 : (N1 : Int) < (n : Int) := by omega
  have bk1 : (M1 : Int) < (n : Int) := by omega
  have zl1 : (0 : Int) ≤ (N1 : Int) := by omega
  have zk1 : (0 : Int) ≤ (M1 : Int) := by omega
  have bl2 : (N2 : Int) < (n : Int) := by omega
  have bk2 : (M2 : Int) < (n : Int) := by omega
  have zl2 : (0 : Int) ≤ (N2 : Int) := by omega
  have zk2 : (0 : Int) ≤ (M2 : Int) := by omega
  have bl3 : (N3 : Int) < (n : Int) := by omega
  have bk3 : (M3 : Int) < (n : Int) := by omega
  have zl3 : (0 : Int) ≤ (N3 : Int) := by omega
  have zk3 : (0 : Int) ≤ (M3 : Int) := by omega
  have zi : (0 : Int) ≤ (i : Int) := by omega
  have zj : (0 : Int) ≤ (j : Int) := by omega
  clear hn hlen hq hp hS hT getc ei ej hst hcl hin
  by_cases hc : xi = xj
  · have hce := HEQ.out hc
    have HCE : Hid (cls[i]? = cls[j]?) := hce
    have hcc : ((xi : Int) != (xj : Int)) = false := by simp [hc]
    clear hce hc HEQ
    have ix0 := ix36_0 N0 N1 N2 N3
    have ix1 := ix36_1 N0 N1 N2 N3
    have ix2 := ix36_2 N0 N1 N2 N3
    have ix3 := ix36_3 N0 N1 N2 N3
    go_enter Tryd.func27, Tryd.ntmps27
    go_wp2
    go_quiet (fail)
    go_wp2
    go_loopw [25] (fun ll wr => ∃ (l k : Nat), l ≤ 4 ∧ ll = .int .i64 (l : Int) ∧ wr = w.drewN k) (fun ll _ => 4 - (intOf ll).toNat)
    case atStart => exact ⟨0, _, by omega, rfl, rfl⟩
    case round =>
      obtain ⟨l, k, hl4, rfl, rfl⟩ := hrel
      match l, hl4 with
      | 0, _ =>
        by_cases hd : ((x0 : Int) != (y0 : Int)) = true
        · go_wp2
          go_quiet (fail)
          go_wp2
          go_ret
          exact ⟨⟨false, rfl, fun h => by cases h⟩, drewN_more ⟨_, rfl⟩⟩
        · have hdf : ((x0 : Int) != (y0 : Int)) = false := by simpa using hd
          clear hd
          go_wp2
          go_quiet (fail)
          go_wp2
          go_roundw
          case rel => exact ⟨1, _, by omega, rfl, rfl⟩
          case measure => simp [intOf]
      | 1, _ =>
        by_cases hd : ((x1 : Int) != (y1 : Int)) = true
        · go_wp2
          go_quiet (fail)
          go_wp2
          go_ret
          exact ⟨⟨false, rfl, fun h => by cases h⟩, drewN_more ⟨_, rfl⟩⟩
        · have hdf : ((x1 : Int) != (y1 : Int)) = false := by simpa using hd
          clear hd
          go_wp2
          go_quiet (fail)
          go_wp2
          go_roundw
          case rel => exact ⟨2, _, by omega, rfl, rfl⟩
          case measure => simp [intOf]
      | 2, _ =>
        by_cases hd : ((x2 : Int) != (y2 : Int)) = true
        · go_wp2
          go_quiet (fail)
          go_wp2
          go_ret
          exact ⟨⟨false, rfl, fun h => by cases h⟩, drewN_more ⟨_, rfl⟩⟩
        · have hdf : ((x2 : Int) != (y2 : Int)) = false := by simpa using hd
          clear hd
          go_wp2
          go_quiet (fail)
          go_wp2
          go_roundw
          case rel => exact ⟨3, _, by omega, rfl, rfl⟩
          case measure => simp [intOf]
      | 3, _ =>
        by_cases hd : ((x3 : Int) != (y3 : Int)) = true
        · go_wp2
          go_quiet (fail)
          go_wp2
          go_ret
          exact ⟨⟨false, rfl, fun h => by cases h⟩, drewN_more ⟨_, rfl⟩⟩
        · have hdf : ((x3 : Int) != (y3 : Int)) = false := by simpa using hd
          clear hd
          go_wp2
          go_quiet (fail)
          go_wp2
          go_roundw
          case rel => exact ⟨4, _, by omega, rfl, rfl⟩
          case measure => simp [intOf]
      | 4, _ =>
        go_wp2
        go_ret
        exact ⟨⟨true, rfl, fun _ => HCE.out⟩, _, rfl⟩
  · have hcc : ((xi : Int) != (xj : Int)) = true := by
      simp only [bne_iff_ne, ne_eq]
      omega
    go_enter Tryd.func27, Tryd.ntmps27
    go_wp2
    go_quiet (fail)
    go_wp2
    go_ret
    exact ⟨⟨false, rfl, fun h => by cases h⟩, _, rfl⟩
end Go.Proofs.YtakgoeofphpghabDoor
