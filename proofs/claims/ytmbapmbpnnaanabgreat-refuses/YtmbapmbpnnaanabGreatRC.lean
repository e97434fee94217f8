import Derived.Test.YtmbapmbpnnaanabGreatRB
namespace Go.Proofs.YtmbapmbpnnaanabGreat.Ld
open Go.RowKit
attribute [local go_sem ↓] Go.wp_at_zero Go.wp_at_succ

def dmGo : List St → Nat → Nat → Nat → Nat × Nat
  | [], _, m, k => (m, k)
  | q :: r, i, m, k => if m < q.en.length then dmGo r (i + 1) q.en.length i else dmGo r (i + 1) m k

set_option maxHeartbeats 1600000 in
set_option maxRecDepth 100000 in
theorem maxDelay_any (w : World) (m : Nat) (v : Value) (sts : List St) (hb : Blk w m [v] 68) (hst : Sts w v sts) (h0 : 0 < sts.length) (hl : sts.length ≤ 200) {r : List (List UInt8)} (hM : fwGo sts 1000 0 [[]] = some r) {A B : Nat} (hD : dmGo sts 0 0 0 = (A, B)) {wd : List UInt8} (hw : r[B]? = some wd) :
    Calls Tryz.prog 11 #[.pointer (some ⟨m, 0, none⟩)] w fun e w' => e = .returned (.tuple #[.int .i64 (A : Int), .string ⟨wd.toArray⟩]) ∧ Mod No w w' := by
  have H20 : Hid (∀ wx, Mod No w wx → Calls Tryz.prog 20 #[v] wx fun e w' => ∃ u, e = .returned u ∧ Row StE w' u r ∧ Mod No wx w') := fun wx hm => firstWords_any v sts wx (Row.no (E := Tx.StaE) hst hm) h0 hl hM
  obtain ⟨g, cap, rfl, hg, hcap⟩ := hst.form h0
  obtain ⟨n, hn⟩ : ∃ n, n = sts.length := ⟨_, rfl⟩
  have HN : Hid (n = sts.length) := hn
  rw [← hn] at h0 hl hcap hst hb H20
  have HST : Hid (Row Tx.StaE w (.slice (some ⟨g, 0, none⟩) n cap) sts) := hst
  have HB : Hid (Blk w m [.slice (some ⟨g, 0, none⟩) n cap] 68) := hb
  have HD : Hid (dmGo (sts.drop 0) 0 0 0 = (A, B)) := hD
  have HWD : Hid (r[B]? = some wd) := hw
  have c0 := hb.cell 0 rfl
  clear hn hst hM hb hD hw
  go_enter Tryz.func11, Tryz.ntmps11
  go_wp2_with fail
  go_loopg [4, 5, 16] n (fun gh u4 u5 u16 wr => ∃ (i M K : Nat), i ≤ n ∧ gh = n - i ∧ u16 = .int .i64 (i : Int) ∧ u4 = .int .i64 (M : Int) ∧ u5 = .int .i64 (K : Int) ∧ dmGo (sts.drop i) i M K = (A, B) ∧ Mod No w wr)
  case atStart => exact ⟨0, 0, 0, by omega, by omega, rfl, rfl, rfl, HD.out, Mod.refl _ _⟩
  case round =>
    clear HD c0
    obtain ⟨i, M, K, hi, hgk, rfl, rfl, rfl, hgo, hmd⟩ := hrel
    by_cases hlt : i < n
    · obtain ⟨q, hq⟩ : ∃ q, sts[i]? = some q := ⟨sts[i]'(by have := HN.out; omega), List.getElem?_eq_getElem _⟩
      have hd : sts.drop i = q :: sts.drop (i + 1) := by
        obtain ⟨h1, h2⟩ := List.getElem?_eq_some_iff.1 hq
        rw [List.drop_eq_getElem_cons h1, h2]
      rw [hd, dmGo] at hgo
      have HGO : Hid ((if M < q.en.length then dmGo (sts.drop (i + 1)) (i + 1) q.en.length i else dmGo (sts.drop (i + 1)) (i + 1) M K) = (A, B)) := hgo
      have hs := HST.out.no hmd
      obtain ⟨S0, S1, S2, S3, S4, N0, N1, N2, N3, hS, a0, a1, a2, a3, a4, a5, a6, a7, a8⟩ := Tx.sta_nine hs i q hq
      have hsz : S0.size = q.en.length := by rw [hS.1, str_size]
      obtain ⟨L, hL⟩ : ∃ L, L = q.en.length := ⟨_, rfl⟩
      rw [← hL] at hsz HGO
      have hlt2 : (i : Int) < (n : Int) := by omega
      have HMD : Hid (Mod No w wr) := hmd
      clear hgo hd hs hS hmd hq hL
      by_cases hc : M < L
      · have hci : (M : Int) < (L : Int) := by omega
        have HG2 : Hid (dmGo (sts.drop (i + 1)) (i + 1) L i = (A, B)) := by
          have h := HGO.out
          rw [if_pos hc] at h
          exact h
        clear HGO hc
        go_wp2
        go_roundg (n - (i + 1))
        case measure => omega
        case rel => exact ⟨i + 1, L, i, by omega, rfl, by go_num, rfl, rfl, HG2.out, HMD.out.alloc _⟩
      · have hci : ¬ (M : Int) < (L : Int) := by omega
        have HG2 : Hid (dmGo (sts.drop (i + 1)) (i + 1) M K = (A, B)) := by
          have h := HGO.out
          rw [if_neg hc] at h
          exact h
        clear HGO hc
        go_wp2
        go_roundg (n - (i + 1))
        case measure => omega
        case rel => exact ⟨i + 1, M, K, by omega, rfl, by go_num, rfl, rfl, HG2.out, HMD.out.alloc _⟩
    · obtain rfl : i = n := by omega
      have hd : sts.drop i = [] := List.drop_of_length_le (by have := HN.out; omega)
      rw [hd, dmGo] at hgo
      injection hgo with e1 e2
      subst e1 e2
      have c0 := (HB.out.mod hmd (fun x => x)).cell 0 rfl
      have h20 := H20.out wr hmd
      have HMD : Hid (Mod No w wr) := hmd
      clear hd hmd
      go_wp2_with fail
      refine h20.mono ?_
      rintro e w1 ⟨u, rfl, hrow, m1⟩
      obtain ⟨k, hk⟩ : ∃ k, k = r.length := ⟨_, rfl⟩
      have hKk : K < k := by rw [hk]; exact (List.getElem?_eq_some_iff.1 HWD.out).1
      obtain ⟨gw, cw, ev, -, -⟩ := hrow.form (by omega)
      rw [← hk] at ev
      subst ev
      have cK : w1.cell? ⟨gw, K, none⟩ = some (.string ⟨wd.toArray⟩) := StE.cell hrow HWD.out
      have hK1 : (K : Int) < (k : Int) := by omega
      have hK2 : ¬ (k : Int) ≤ (K : Int) := by omega
      have HM1 : Hid (Mod No w w1) := HMD.out.no m1
      obtain ⟨WD, hWD⟩ : ∃ X, X = (⟨wd.toArray⟩ : ByteArray) := ⟨_, rfl⟩
      rw [← hWD] at cK
      have HWE : Hid (WD = (⟨wd.toArray⟩ : ByteArray)) := hWD
      clear hWD
      clear h20 hrow m1 hk c0
      go_wp2_with fail
      go_quiet (fail)
      all_goals
        go_wp2
        go_ret2
        exact ⟨by rw [← HWE.out]; rfl, HM1.out.drewN _⟩
end Go.Proofs.YtmbapmbpnnaanabGreat.Ld
