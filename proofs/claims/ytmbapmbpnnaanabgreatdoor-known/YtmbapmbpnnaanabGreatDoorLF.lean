import Derived.Test.YtmbapmbpnnaanabGreatDoorLE
import Derived.Lib.AppendStr
namespace Go.Proofs.YtmbapmbpnnaanabGreatDoor
open Go.RowKit
attribute [local go_sem ↓] Go.wp_at_zero Go.wp_at_succ

theorem common_end1 (v w : List UInt8) (n : Nat) (h : v.length ≤ n) : Mir.common (v.drop n) w = 0 := by
  rw [List.drop_of_length_le h]; cases w <;> rfl
theorem common_end2 (v w : List UInt8) (n : Nat) (h : w.length ≤ n) : Mir.common v (w.drop n) = 0 := by
  rw [List.drop_of_length_le h]; cases v <;> rfl
theorem common_step (v w : List UInt8) (n : Nat) (x y : UInt8) (hx : v[n]? = some x) (hy : w[n]? = some y) : Mir.common (v.drop n) (w.drop n) = if x = y then Mir.common (v.drop (n + 1)) (w.drop (n + 1)) + 1 else 0 := by
  obtain ⟨h1, rfl⟩ := List.getElem?_eq_some_iff.1 hx
  obtain ⟨h2, rfl⟩ := List.getElem?_eq_some_iff.1 hy
  rw [List.drop_eq_getElem_cons h1, List.drop_eq_getElem_cons h2, Mir.common]

set_option maxHeartbeats 2000000 in
theorem common_any (s t : ByteArray) (w : World) (hs : s.size ≤ 1073741824) (_ht : t.size ≤ 1073741824) :
    Calls Tryz.prog 79 #[.string s, .string t] w fun e w' => e = .returned (.int .i64 (Mir.common s.data.toList t.data.toList : Int)) ∧ ∃ n, w' = w.drewN n := by
  obtain ⟨v, hv⟩ : ∃ v, v = s.data.toList := ⟨_, rfl⟩
  obtain ⟨u, hu⟩ : ∃ u, u = t.data.toList := ⟨_, rfl⟩
  have HS : Hid (s.size = v.length ∧ t.size = u.length) := ⟨by rw [hv, data_len], by rw [hu, data_len]⟩
  have HG1 : Hid (∀ (i : Nat) (h : i < s.size), v[i]? = some s[i]) := fun i h => by rw [hv]; exact Lib.data_getElem? s i h
  have HG2 : Hid (∀ (i : Nat) (h : i < t.size), u[i]? = some t[i]) := fun i h => by rw [hu]; exact Lib.data_getElem? t i h
  rw [← hv, ← hu]
  clear hv hu
  generalize hE : Mir.common v u = E
  have HE : Hid (Mir.common v u = E) := hE
  clear hE
  go_enter Tryz.func79, Tryz.ntmps79
  go_wp2_with fail
  go_loopg [5] s.size (fun g v5 wr => ∃ (n m : Nat), n ≤ s.size ∧ g = s.size - n ∧ v5 = .int .i64 (n : Int) ∧ n + Mir.common (v.drop n) (u.drop n) = E ∧ wr = w.drewN m)
  case atStart => exact ⟨0, 0, by omega, by omega, rfl, by have := HE.out; simpa using this, rfl⟩
  case round =>
    obtain ⟨n, m, hn, hg, rfl, hc, rfl⟩ := hrel
    by_cases h1 : n < s.size
    · have h1i : (n : Int) < (s.size : Int) := by omega
      have h1d : decide (n < s.size) = true := decide_eq_true h1
      have h0i : (0 : Int) ≤ (n : Int) := by omega
      by_cases h2 : n < t.size
      · have h2i : (n : Int) < (t.size : Int) := by omega
        have h2d : decide (n < t.size) = true := decide_eq_true h2
        have hst := common_step v u n _ _ (HG1.out n h1) (HG2.out n h2)
        by_cases h3 : s[n] = t[n]
        · have HC : Hid (n + 1 + Mir.common (v.drop (n + 1)) (u.drop (n + 1)) = E) := by
            show n + 1 + Mir.common (v.drop (n + 1)) (u.drop (n + 1)) = E
            rw [← hc, hst, if_pos h3]; omega
          have h3i : (((s[n]).toNat : Int) == ((t[n]).toNat : Int)) = true := by rw [h3]; simp
          clear hst hc h3
          go_wp2_with fail
          go_quiet (fail)
          go_wp2
          go_roundg (s.size - (n + 1))
          case measure => omega
          case rel => exact ⟨n + 1, _, by omega, rfl, by go_num, HC.out, rfl⟩
        · have HC : Hid (n = E) := by
            show n = E
            rw [← hc, hst, if_neg h3]; omega
          have h3i : (((s[n]).toNat : Int) == ((t[n]).toNat : Int)) = false := by
            rw [beq_eq_false_iff_ne]
            intro h
            exact h3 (UInt8.toNat_inj.1 (by omega))
          clear hst hc h3
          go_wp2_with fail
          go_quiet (fail)
          go_wp2
          go_ret
          exact ⟨wrap_ret (by rw [HC.out]), _, World.drewN_drewN _ _ _⟩
      · have h2i : ¬ (n : Int) < (t.size : Int) := by omega
        have h2d : decide (n < t.size) = false := decide_eq_false h2
        have HC : Hid (n = E) := by
          show n = E
          rw [← hc, common_end2 _ u n (by have := HS.out.2; omega)]; omega
        clear hc
        go_wp2_with fail
        go_quiet (fail)
        go_wp2
        go_ret
        exact ⟨wrap_ret (by rw [HC.out]), _, World.drewN_drewN _ _ _⟩
    · have h1i : ¬ (n : Int) < (s.size : Int) := by omega
      have h1d : decide (n < s.size) = false := decide_eq_false h1
      have HC : Hid (n = E) := by
        show n = E
        rw [← hc, common_end1 v _ n (by have := HS.out.1; omega)]; omega
      clear hc
      go_wp2_with fail
      go_quiet (fail)
      go_wp2
      go_ret
      exact ⟨wrap_ret (by rw [HC.out]), _, World.drewN_drewN _ _ _⟩
end Go.Proofs.YtmbapmbpnnaanabGreatDoor
namespace Go.Proofs.YtmbapmbpnnaanabGreatDoor
open Go.RowKit
attribute [local go_sem ↓] Go.wp_at_zero Go.wp_at_succ

/-- Deeds in a slice. -/
def DeE : Enc (Nat × List UInt8) := ⟨149, 2, fun d => [.int .i64 (d.1 : Int), .string ⟨d.2.toArray⟩], fun _ => rfl⟩
/-- Some slice. -/
def IsSl (v : Value) : Prop := ∃ a n c, v = .slice a n c
theorem Row.sl {α : Type} {E : Enc α} {w : World} {v : Value} {xs : List α} (h : Row E w v xs) : IsSl v := by
  obtain ⟨a, cap, e, _⟩ := h.any
  exact ⟨_, _, _, e⟩
theorem letter_cut (l : Nat) (hl : l < 4) : (⟨#[97, 98, 99, 100]⟩ : ByteArray).extract l (l + 1) = ⟨(M2.letterOf l).toArray⟩ := by
  match l, hl with
  | 0, _ => rfl
  | 1, _ => rfl
  | 2, _ => rfl
  | 3, _ => rfl

set_option maxHeartbeats 2000000 in
theorem vstep_any (w : World) (ka kw kh kd : Value) (v : M2.View) (kind tc l : Nat) (h1 : IsSl ka) (h2 : IsSl kw) (h3 : IsSl kh) (hd : Row DeE w kd v.deeds) (hl : l < 4) (hk : kind < v.deeds.length) (htc : tc ≤ 1000) (hdl : v.deeds.length ≤ 1000) (hds : ∀ d ∈ v.deeds, d.1 ≤ 1000) :
    Calls Tryz.prog 130 #[.agg #[ka, kw, kh, kd], .int .i64 (kind : Int), .int .i64 (tc : Int), .int .i64 (l : Int)] w fun e w' => e = .returned (.tuple #[.string ⟨(M2.vstep v kind tc l).1.toArray⟩, .int .i64 ((M2.vstep v kind tc l).2 : Int)]) ∧ Mod No w w' := by
  obtain ⟨a1, n1, c1, rfl⟩ := h1
  obtain ⟨a2, n2, c2, rfl⟩ := h2
  obtain ⟨a3, n3, c3, rfl⟩ := h3
  obtain ⟨g, cap, rfl, hg, hcap⟩ := hd.form (by omega)
  obtain ⟨d, hdk⟩ : ∃ d, v.deeds[kind]? = some d := ⟨v.deeds[kind], List.getElem?_eq_getElem hk⟩
  have hd1 := hds d (List.mem_of_getElem? hdk)
  have q0 : w.cell? ⟨g, kind * 2, none⟩ = some (.int .i64 (d.1 : Int)) := hd.cell kind 0 hdk rfl
  have q1 : w.cell? ⟨g, kind * 2 + 1, none⟩ = some (.string ⟨d.2.toArray⟩) := hd.cell kind 1 hdk rfl
  have hv : M2.vstep v kind tc l = if 0 < tc then ([], tc - 1) else if 0 < d.1 then (d.2, d.1 - 1) else (M2.letterOf l, 0) := by
    unfold M2.vstep
    rw [hdk]
    dsimp only
    rw [if_neg (by omega)]
  rw [hv]
  have HLC : Hid ((⟨#[97, 98, 99, 100]⟩ : ByteArray).extract l (l + 1) = ⟨(M2.letterOf l).toArray⟩) := letter_cut l hl
  obtain ⟨n, hn⟩ : ∃ n, n = v.deeds.length := ⟨_, rfl⟩
  rw [← hn] at hcap hk hdl ⊢
  obtain ⟨d1, d2⟩ := d
  dsimp only at *
  have hki : (kind : Int) < (n : Int) := by omega
  have hki0 : (0 : Int) ≤ (kind : Int) := by omega
  have hli : (l : Int) < 4 := by omega
  have hli0 : (0 : Int) ≤ (l : Int) := by omega
  have e1 : decide ((kind : Int) < 0) = false := decide_eq_false (by omega)
  have e2 : decide ((n : Int) ≤ (kind : Int)) = false := decide_eq_false (by omega)
  have e3 : decide ((l : Int) < 0) = false := decide_eq_false (by omega)
  have e4 : decide ((4 : Int) ≤ (l : Int)) = false := decide_eq_false (by omega)
  clear hd hdk hds hv hn
  by_cases ht : 0 < tc
  · rw [if_pos ht]
    have hti : (0 : Int) < (tc : Int) := by omega
    go_enter Tryz.func130, Tryz.ntmps130
    go_wp2
    exact bodyPost_ret (v := .tuple #[.string ⟨#[]⟩, .int .i64 ((tc : Int) - 1)]) (by simp [results, Tryz.results130, go_sem]) rfl ⟨by rw [show ((tc : Int) - 1) = ((tc - 1 : Nat) : Int) by omega], (Mod.refl _ _).alloc _⟩
  · rw [if_neg ht]
    have hti : ¬ (0 : Int) < (tc : Int) := by omega
    by_cases hd0 : 0 < d1
    · rw [if_pos hd0]
      have hdi : (0 : Int) < (d1 : Int) := by omega
      obtain ⟨D2, hD2⟩ : ∃ D2, D2 = (⟨d2.toArray⟩ : ByteArray) := ⟨_, rfl⟩
      rw [← hD2] at q1 ⊢
      clear hD2
      have hgw : ¬ g = w.heap.size := by omega
      obtain ⟨wa, hwa⟩ : ∃ wa, (w.alloc (Obj.cells #[.slice a1 n1 c1, .slice a2 n2 c2, .slice a3 n3 c3, .slice (some ⟨g, 0, none⟩) n cap] 90)).alloc (Obj.cells #[.int .i64 (d1 : Int), .string D2] 149) = wa := ⟨_, rfl⟩
      have hb : Blk wa (w.heap.size + 1) [.int .i64 (d1 : Int), .string D2] 149 := by rw [← hwa]; exact new2_1 w _ _
      have HMD : Hid (Mod No w wa) := by show Mod No w wa; rw [← hwa]; exact ((Mod.refl _ _).alloc _).alloc _
      have k0 := hb.cell 0 rfl
      have k1 := hb.cell 1 rfl
      clear hb
      go_enter Tryz.func130, Tryz.ntmps130
      go_wp2
      clear hwa
      go_quiet (fail)
      go_wp2
      exact bodyPost_ret (v := .tuple #[.string D2, .int .i64 ((d1 : Int) - 1)]) (by simp [results, Tryz.results130, go_sem]) rfl ⟨by rw [show ((d1 : Int) - 1) = ((d1 - 1 : Nat) : Int) by omega], HMD.out.drewN _⟩
    · rw [if_neg hd0]
      have hdi : ¬ (0 : Int) < (d1 : Int) := by omega
      have hl1 : (l : Int) + 1 ≤ 4 := by omega
      have hl2 : (0 : Int) ≤ (l : Int) + 1 := by omega
      have hl3 : (l : Int) ≤ (l : Int) + 1 := by omega
      have hl4 : ((l : Int) + 1).toNat = l + 1 := by omega
      have hgw : ¬ g = w.heap.size := by omega
      generalize (⟨d2.toArray⟩ : ByteArray) = D2 at q1
      go_enter Tryz.func130, Tryz.ntmps130
      go_wp2
      refine bodyPost_ret (v := .tuple #[.string ((⟨#[97, 98, 99, 100]⟩ : ByteArray).extract l (l + 1)), .int .i64 0]) (by simp [results, Tryz.results130, go_sem]) rfl ⟨by rw [HLC.out], ((Mod.refl _ _).alloc _).alloc _⟩
end Go.Proofs.YtmbapmbpnnaanabGreatDoor
namespace Go.Proofs.YtmbapmbpnnaanabGreatDoor
open Go.RowKit
attribute [local go_sem ↓] Go.wp_at_zero Go.wp_at_succ

theorem along_len (v : M2.View) : ∀ (w : List UInt8) (b : Nat) (r : List Nat × Nat), M2.alongM v w b = some r → r.1.length = w.length
  | [], b, r, h => by rw [M2.alongM] at h; cases h; rfl
  | c :: cs, b, r, h => by
    rw [M2.alongM] at h
    split at h
    · cases h
    · rename_i ks b' hk
      split at h
      · cases h
      · split at h
        · cases h
        · cases h; simp [along_len v cs b _ hk]
/-- What is known of a suffix, from what is known of the whole. -/
theorem along_part (v : M2.View) (b : Nat) : ∀ (w : List UInt8) (r : List Nat × Nat) (j : Nat), M2.alongM v w b = some r → j ≤ w.length → ∃ k, M2.alongM v (w.drop j) b = some (r.1.drop j, k)
  | [], r, j, h, hj => by
    have : j = 0 := by simpa using hj
    subst this
    exact ⟨r.2, by simpa using h⟩
  | c :: cs, r, 0, h, hj => ⟨r.2, by simpa using h⟩
  | c :: cs, r, j + 1, h, hj => by
    rw [M2.alongM] at h
    split at h
    · cases h
    · rename_i ks b' hk
      split at h
      · cases h
      · split at h
        · cases h
        · cases h
          obtain ⟨k, hk2⟩ := along_part v b cs _ j hk (by simpa using hj)
          exact ⟨k, by simpa using hk2⟩

set_option maxHeartbeats 2000000 in
set_option maxRecDepth 100000 in
theorem along_any (w : World) (ka kw kh kd : Value) (v : M2.View) (s : ByteArray) (b0 : Nat) (h2 : IsSl kw) (h3 : IsSl kh) (h4 : IsSl kd) (ha : Row R4E w ka v.k.ahead) (hs : s.size ≤ 1000000) (hb : b0 < v.k.ahead.length) (hal : v.k.ahead.length ≤ 1000) {r : List Nat × Nat} (hM : M2.alongM v s.data.toList b0 = some r) :
    Calls Tryz.prog 146 #[.agg #[ka, kw, kh, kd], .string s, .int .i64 (b0 : Int)] w fun e w' => Mod No w w' ∧ ∃ u, e = .returned u ∧ Row InE w' u r.1 ∧ (∀ g, u.ownBlock = some g → w.heap.size ≤ g) := by
  obtain ⟨a2, n2, c2, rfl⟩ := h2
  obtain ⟨a3, n3, c3, rfl⟩ := h3
  obtain ⟨a4, n4, c4, rfl⟩ := h4
  obtain ⟨g, cap, rfl, hg, hcap⟩ := ha.form (by omega)
  obtain ⟨n, hn⟩ : ∃ n, n = v.k.ahead.length := ⟨_, rfl⟩
  rw [← hn] at ha hb hal hcap ⊢
  obtain ⟨l, hl⟩ : ∃ l, l = s.data.toList := ⟨_, rfl⟩
  rw [← hl] at hM
  have HSZ : Hid (s.size = l.length) := by show s.size = l.length; rw [hl, data_len]
  have HG : Hid (∀ (i : Nat) (h : i < s.size), l[i]? = some s[i]) := fun i h => by rw [hl]; exact Lib.data_getElem? s i h
  have HRL : Hid (r.1.length = l.length) := along_len v l b0 r hM
  have HP : Hid (∀ j, j ≤ l.length → ∃ k, M2.alongM v (l.drop j) b0 = some (r.1.drop j, k)) := fun j hj => along_part v b0 l r j hM hj
  have HA : Hid (Row R4E w (.slice (some ⟨g, 0, none⟩) n cap) v.k.ahead) := ha
  have HN : Hid (n = v.k.ahead.length) := hn
  have HNUM : Hid (∀ (c : UInt8) (w : World), Calls Tryz.prog 47 #[.int .u8 (c.toNat : Int)] w fun e w' => e = .returned (.int .i64 (Mir.num c : Int)) ∧ w' = w) := number_any
  have hmk := make_ints s.size hs
  have e1 : decide ((b0 : Int) < 0) = false := decide_eq_false (by omega)
  have e2 : decide ((n : Int) ≤ (b0 : Int)) = false := decide_eq_false (by omega)
  have hbi : ¬ (n : Int) ≤ (b0 : Int) := by omega
  clear hl hM ha hn
  go_enter Tryz.func146, Tryz.ntmps146
  go_wp2_with fail
  clear hmk e1 e2 hbi
  have HI0 : Hid (∀ A B, A = Obj.cells #[.slice (some ⟨g, 0, none⟩) n cap, .slice a2 n2 c2, .slice a3 n3 c3, .slice a4 n4 c4] 90 → B = Obj.cells (Array.replicate s.size (.int .i64 0)) 3 → Blk ((w.alloc A).alloc B) w.heap.size [.slice (some ⟨g, 0, none⟩) n cap, .slice a2 n2 c2, .slice a3 n3 c3, .slice a4 n4 c4] 90 ∧ Row InE ((w.alloc A).alloc B) (.slice (some ⟨w.heap.size + 1, 0, none⟩) s.size s.size) (List.replicate s.size 0 ++ r.1.drop s.size)) := by
    intro A B hA hB
    subst hA hB
    refine ⟨new2_0 w _ _, ?_⟩
    have e : r.1.drop s.size = [] := List.drop_of_length_le (by rw [HRL.out, HSZ.out]; omega)
    rw [e, List.append_nil]
    have hb2 : Blk ((w.alloc (Obj.cells #[.slice (some ⟨g, 0, none⟩) n cap, .slice a2 n2 c2, .slice a3 n3 c3, .slice a4 n4 c4] 90)).alloc (Obj.cells (Array.replicate s.size (.int .i64 0)) 3)) (w.heap.size + 1) ((List.replicate s.size (0 : Nat)).flatMap InE.f) 3 := by
      rw [ints_zero]
      have := new2_1 w (Obj.cells #[.slice (some ⟨g, 0, none⟩) n cap, .slice a2 n2 c2, .slice a3 n3 c3, .slice a4 n4 c4] 90) (Obj.cells (Array.replicate s.size (.int .i64 0)) 3)
      unfold Blk
      rw [this]
      simp
    have := Row.of_block hb2 (by simp; unfold maxLen; omega)
    simpa using this
  go_loopg [2, 8] s.size (fun gh v2 v8 wr => ∃ (j k : Nat), j ≤ s.size ∧ gh = j ∧ v8 = .int .i64 ((j : Int) - 1) ∧ v2 = .int .i64 (k : Int) ∧ M2.alongM v (l.drop j) b0 = some (r.1.drop j, k) ∧ Blk wr w.heap.size [.slice (some ⟨g, 0, none⟩) n cap, .slice a2 n2 c2, .slice a3 n3 c3, .slice a4 n4 c4] 90 ∧ Row InE wr (.slice (some ⟨w.heap.size + 1, 0, none⟩) s.size s.size) (List.replicate j 0 ++ r.1.drop j) ∧ Mod No w wr)
  case atStart =>
    have h := HI0.out _ _ rfl rfl
    refine ⟨s.size, b0, by omega, rfl, rfl, rfl, ?_, h.1, h.2, ((Mod.refl _ _).alloc _).alloc _⟩
    rw [List.drop_of_length_le (by have := HSZ.out; omega), List.drop_of_length_le (by rw [HRL.out]; have := HSZ.out; omega), M2.alongM]
  case round =>
    obtain ⟨j, k, hj, hgk, rfl, rfl, hal2, hX, hO, hm⟩ := hrel
    have HX : Hid (Blk wr w.heap.size [.slice (some ⟨g, 0, none⟩) n cap, .slice a2 n2 c2, .slice a3 n3 c3, .slice a4 n4 c4] 90) := hX
    have HO : Hid (Row InE wr (.slice (some ⟨w.heap.size + 1, 0, none⟩) s.size s.size) (List.replicate j 0 ++ r.1.drop j)) := hO
    have HM : Hid (Mod No w wr) := hm
    match j, hj, hgk, hal2, HO with
    | 0, _, _, _, HO =>
      clear hX hO hm
      go_wp2
      go_ret
      refine ⟨HM.out, _, rfl, ?_, fun g2 hg2 => ?_⟩
      · have h := HO.out
        simpa using h
      · cases hg2; show w.heap.size ≤ w.heap.size + 1; omega
    | j + 1, hj, hgk, hal2, HO =>
      have hjs : j < s.size := by omega
      have hc := HG.out j hjs
      have hcl : l.drop j = s[j] :: l.drop (j + 1) := by
        obtain ⟨h1, h2⟩ := List.getElem?_eq_some_iff.1 hc
        rw [List.drop_eq_getElem_cons h1, h2]
      obtain ⟨k', hk'⟩ := HP.out j (by have := HSZ.out; omega)
      rw [hcl, M2.alongM, hal2] at hk'
      dsimp only at hk'
      cases hrow : v.k.ahead[k]? with
      | none => rw [hrow] at hk'; cases hk'
      | some row =>
        rw [hrow] at hk'
        dsimp only at hk'
        cases hget : row.get (Mir.num s[j]) with
        | none => rw [hget] at hk'; cases hk'
        | some kk =>
          rw [hget] at hk'
          simp only [Option.some.injEq, Prod.mk.injEq] at hk'
          obtain ⟨hdr, rfl⟩ := hk'
          have HAL : Hid (M2.alongM v (l.drop j) b0 = some (r.1.drop j, kk)) := by
            show M2.alongM v (l.drop j) b0 = some (r.1.drop j, kk)
            rw [hcl, M2.alongM, hal2]
            dsimp only
            rw [hrow]
            dsimp only
            rw [hget]
            dsimp only
            rw [hdr]
          have HSET : Hid ((List.replicate (j + 1) 0 ++ r.1.drop (j + 1)).set j kk = List.replicate j 0 ++ r.1.drop j) := by
            show (List.replicate (j + 1) 0 ++ r.1.drop (j + 1)).set j kk = List.replicate j 0 ++ r.1.drop j
            rw [← hdr, List.replicate_succ', List.append_assoc, List.set_append_right _ _ (by simp)]
            simp
          have hkn : k < n := by have := (List.getElem?_eq_some_iff.1 hrow).1; rw [← HN.out] at this; exact this
          have hnl := num_lt s[j]
          have hA := HA.out.no hm
          have cq : wr.cell? ⟨g, k * 4 + Mir.num s[j], none⟩ = some (.int .i64 (kk : Int)) := by
            have h := r4c_get row (Mir.num s[j]) hnl
            unfold r4g at h
            rw [hget] at h
            exact hA.cell k (Mir.num s[j]) hrow h
          have x0 := hX.cell 0 rfl
          have oj : wr.cell? ⟨w.heap.size + 1, j, none⟩ = some (.int .i64 ((0 : Nat) : Int)) := InE.cell HO.out (by rw [List.getElem?_append_left (by simp), List.getElem?_replicate]; simp)
          have foj := HO.out.free j
          have hcall := HNUM.out s[j]
          have hji : (j : Int) < (s.size : Int) := by omega
          have hji0 : (0 : Int) ≤ (j : Int) := by omega
          have hkni : (k : Int) < (n : Int) := by omega
          have hnli : (Mir.num s[j] : Int) < 4 := by omega
          have HO0 : Hid ((List.replicate (j + 1) 0 ++ r.1.drop (j + 1))[j]? = some 0) := by
            show (List.replicate (j + 1) 0 ++ r.1.drop (j + 1))[j]? = some 0
            rw [List.getElem?_append_left (by simp), List.getElem?_replicate]; simp
          generalize Mir.num s[j] = q at cq hcall hnl hnli
          clear hX hO hm hA hc hcl hal2 hrow hget hdr
          go_wp2_with fail
          refine (hcall _).mono ?_
          rintro e w2 ⟨rfl, rfl⟩
          clear hcall
          go_wp2
          go_roundg j
          case measure => omega
          case rel =>
            refine ⟨j, kk, by omega, rfl, by go_num, rfl, HAL.out, HX.out.other (a := ⟨w.heap.size + 1, j, none⟩) (by simp) _, ?_, HM.out.setCell (a := ⟨w.heap.size + 1, j, none⟩) (fun h => absurd h (by simp)) _⟩
            rw [← HSET.out]
            exact InE.put HO.out kk HO0.out
end Go.Proofs.YtmbapmbpnnaanabGreatDoor
namespace Go.Proofs.YtmbapmbpnnaanabGreatDoor
open Go.RowKit
attribute [local go_sem ↓] Go.wp_at_zero Go.wp_at_succ

/-- A view that lies well: kinds lead to kinds, each has a deed, deeds are small. -/
structure VOk (v : M2.View) : Prop where
  len : v.deeds.length = v.k.ahead.length
  le : v.k.ahead.length ≤ 1000
  ent : ∀ row ∈ v.k.ahead, ∀ l k, row.get l = some k → k < v.k.ahead.length
  tak : ∀ d ∈ v.deeds, d.1 ≤ 4 ∧ d.2.length ≤ 4
theorem along_lt (v : M2.View) (hv : VOk v) : ∀ (w : List UInt8) (b : Nat) (r : List Nat × Nat), M2.alongM v w b = some r → ∀ k ∈ r.1, k < v.k.ahead.length
  | [], b, r, h => by rw [M2.alongM] at h; cases h; intro k hk; cases hk
  | c :: cs, b, r, h => by
    rw [M2.alongM] at h
    split at h
    · cases h
    · rename_i ks b' hk
      split at h
      · cases h
      · rename_i row hrow
        split at h
        · cases h
        · rename_i k2 hget
          cases h
          intro k hk2
          rcases List.mem_cons.1 hk2 with h1 | h1
          · rw [h1]; exact hv.ent row (List.mem_of_getElem? hrow) _ _ hget
          · exact along_lt v hv cs b _ hk k h1
theorem vstep_small (v : M2.View) (hv : VOk v) (k tc l : Nat) (ht : tc ≤ 4) : (M2.vstep v k tc l).1.length ≤ 4 ∧ (M2.vstep v k tc l).2 ≤ 4 := by
  unfold M2.vstep
  split
  · exact ⟨by simp, by simp⟩
  · rename_i d hd
    have := hv.tak d (List.mem_of_getElem? hd)
    split
    · exact ⟨by simp, by simp⟩
    · split
      · exact ⟨by simp, by show tc - 1 ≤ 4; omega⟩
      · split
        · exact ⟨this.2, by show d.1 - 1 ≤ 4; omega⟩
        · exact ⟨by simp [M2.letterOf], by simp⟩
theorem strCells_eq (s : ByteArray) : Lib.strCells s = Lib.byteCells s.data.toList := by
  rfl
theorem runGo_nil (v : M2.View) (acc : List UInt8) (tc : Nat) (cs : List UInt8) : M2.runGo v cs [] acc tc = (acc, tc) := by cases cs <;> rfl

end Go.Proofs.YtmbapmbpnnaanabGreatDoor
