import Derived.Test.YtmbapmbpnnaanabGreatDoorMJ
namespace Go.Proofs.YtmbapmbpnnaanabGreatDoor
open Go.RowKit
attribute [local go_sem ↓] Go.wp_at_zero Go.wp_at_succ

/-! early: what lies where -/
def str (s : List UInt8) : Value := .string ⟨s.toArray⟩
def SuE : Enc (List (List UInt8)) := ⟨105, 4, fun r => [str (r.getD 0 []), str (r.getD 1 []), str (r.getD 2 []), str (r.getD 3 [])], fun _ => rfl⟩
def b16 (a : List (List Bool)) (i j : Nat) : Value := .bool ((a.getD i []).getD j false)
def ApE : Enc (List (List Bool)) := ⟨254, 16, fun a => [b16 a 0 0, b16 a 0 1, b16 a 0 2, b16 a 0 3, b16 a 1 0, b16 a 1 1, b16 a 1 2, b16 a 1 3, b16 a 2 0, b16 a 2 1, b16 a 2 2, b16 a 2 3, b16 a 3 0, b16 a 3 1, b16 a 3 2, b16 a 3 3], fun _ => rfl⟩
theorem str_size (s : List UInt8) : (⟨s.toArray⟩ : ByteArray).size = s.length := by show s.toArray.size = _; simp
theorem str_cat (a b : List UInt8) : (⟨a.toArray⟩ : ByteArray) ++ ⟨b.toArray⟩ = ⟨(a ++ b).toArray⟩ := by
  apply ByteArray.ext
  simp
theorem str_drop (a : List UInt8) (n : Nat) : (⟨a.toArray⟩ : ByteArray).extract n a.length = ⟨(a.drop n).toArray⟩ := by
  apply ByteArray.ext
  apply Array.ext'
  rw [extract_data]
  simp
  exact List.take_of_length_le (by simp)
theorem str_take (a : List UInt8) (n : Nat) : (⟨a.toArray⟩ : ByteArray).extract 0 n = ⟨(a.take n).toArray⟩ := by
  apply ByteArray.ext
  apply Array.ext'
  rw [extract_data]
  simp
theorem su_get {r : List (List UInt8)} {j : Nat} {x : List UInt8} (hj : j < 4) (hx : r[j]? = some x) : (SuE.f r)[j]? = some (str x) := by
  have e : r.getD j [] = x := by rw [List.getD_eq_getElem?_getD, hx]; rfl
  match j, hj with
  | 0, _ => rw [← e]; rfl
  | 1, _ => rw [← e]; rfl
  | 2, _ => rw [← e]; rfl
  | 3, _ => rw [← e]; rfl
theorem get2_row {s : M2.Sure} {i j : Nat} {x : List UInt8} (h : M2.get2 s i j = some x) : ∃ r, s[i]? = some r ∧ r[j]? = some x := by
  unfold M2.get2 at h
  cases hq : s[i]? with
  | none => rw [hq] at h; cases h
  | some r => rw [hq] at h; exact ⟨r, rfl, h⟩
theorem sure_cell {w : World} {g n cap : Nat} {s : M2.Sure} (h : Row SuE w (.slice (some ⟨g, 0, none⟩) n cap) s) {i j : Nat} {x : List UInt8} (hj : j < 4) (hx : M2.get2 s i j = some x) : w.cell? ⟨g, i * 4 + j, none⟩ = some (.string ⟨x.toArray⟩) := by
  obtain ⟨r, h1, h2⟩ := get2_row hx
  exact h.cell i j h1 (su_get hj h2)

/-- Sure things: four of each kind, not too long. -/
structure SOk (s : M2.Sure) (n : Nat) : Prop where
  len : s.length = n
  four : ∀ r ∈ s, r.length = 4
  sm : ∀ r ∈ s, ∀ x ∈ r, x.length ≤ 1000
theorem SOk.get {s : M2.Sure} {n i j : Nat} {x : List UInt8} (h : SOk s n) (hx : M2.get2 s i j = some x) : i < n ∧ j < 4 ∧ x.length ≤ 1000 := by
  obtain ⟨r, h1, h2⟩ := get2_row hx
  have h3 := List.mem_of_getElem? h1
  have h4 := (List.getElem?_eq_some_iff.1 h1).1
  have h5 := (List.getElem?_eq_some_iff.1 h2).1
  rw [h.len] at h4
  rw [h.four r h3] at h5
  exact ⟨h4, h5, h.sm r h3 x (List.mem_of_getElem? h2)⟩
theorem SOk.has {s : M2.Sure} {n : Nat} (h : SOk s n) {i j : Nat} (hi : i < n) (hj : j < 4) : ∃ x, M2.get2 s i j = some x := by
  have h1 : i < s.length := by rw [h.len]; exact hi
  have h2 := h.four s[i] (List.getElem_mem h1)
  refine ⟨s[i][j]'(by omega), ?_⟩
  unfold M2.get2
  rw [List.getElem?_eq_getElem h1]
  show s[i][j]? = _
  rw [List.getElem?_eq_getElem]

structure OL (v : M2.View) (su : M2.Sure) (ap : M2.Apart) (base O : Nat) (ka kw kh kd vs va : Value) (w : World) : Prop where
  blk : Blk w O [ka, kw, kh, kd, vs, va] 154
  vp : VP v base ka kw kh kd w
  su : Row SuE w vs su
  ap : Row ApE w va ap
theorem OL.no {v : M2.View} {su : M2.Sure} {ap : M2.Apart} {base O : Nat} {ka kw kh kd vs va : Value} {w w' : World} (h : OL v su ap base O ka kw kh kd vs va w) (hm : Mod No w w') : OL v su ap base O ka kw kh kd vs va w' := ⟨h.blk.mod hm (fun x => x), h.vp.no hm, h.su.no hm, h.ap.no hm⟩

theorem vstep_lt (v : M2.View) (hv : VOk v) (k tc l : Nat) (ht : tc < 4) : (M2.vstep v k tc l).2 < 4 := by
  unfold M2.vstep
  split
  · show (0 : Nat) < 4; omega
  · rename_i d hd
    have := hv.tak d (List.mem_of_getElem? hd)
    split
    · show (0 : Nat) < 4; omega
    · split
      · show tc - 1 < 4; omega
      · split
        · show d.1 - 1 < 4; omega
        · show (0 : Nat) < 4; omega

set_option maxHeartbeats 1600000 in
set_option maxRecDepth 100000 in
theorem estep_any (w : World) (v : M2.View) (su : M2.Sure) (ap : M2.Apart) (base O : Nat) (ka kw kh kd vs va : Value) (hO : OL v su ap base O ka kw kh kd vs va w) (hs : SOk su v.k.ahead.length) (kind tc l next : Nat) (hk : kind < v.k.ahead.length) (ht : tc < 4) (hl : l < 4) {r : List UInt8 × Nat} (hM : M2.estep v su kind tc l next = some r) :
    Calls Tryz.prog 96 #[.pointer (some ⟨O, 0, none⟩), .int .i64 (kind : Int), .int .i64 (tc : Int), .int .i64 (l : Int), .int .i64 (next : Int)] w fun e w' => e = .returned (.tuple #[.string ⟨r.1.toArray⟩, .int .i64 (r.2 : Int)]) ∧ Mod No w w' := by
  have hvp := hO.vp
  obtain ⟨n, hn⟩ : ∃ n, n = v.k.ahead.length := ⟨_, rfl⟩
  obtain ⟨a1, c1, h1, -, -⟩ := hvp.ah.open hn.symm
  obtain ⟨a2, c2, h2, -, -⟩ := hvp.wo.open rfl
  obtain ⟨a3, c3, h3, -, -⟩ := hvp.hi.open (n := n) (by rw [hvp.nh]; exact hn.symm)
  obtain ⟨a4, c4, h4, -, -⟩ := hvp.de.open (n := n) (by rw [hvp.ok.len]; exact hn.symm)
  obtain ⟨gs, cs, h5, -, -⟩ := hO.su.form (by rw [hs.len]; omega)
  rw [hs.len, ← hn] at h5
  obtain ⟨a6, c6, h6, -, -⟩ := hO.ap.open rfl
  generalize v.k.words.length = NW at h2
  generalize ap.length = NA at h6
  have H78 : Hid (Calls Tryz.prog 130 #[.agg #[ka, kw, kh, kd], .int .i64 (kind : Int), .int .i64 (tc : Int), .int .i64 (l : Int)] w fun e w' => e = .returned (.tuple #[.string ⟨(M2.vstep v kind tc l).1.toArray⟩, .int .i64 ((M2.vstep v kind tc l).2 : Int)]) ∧ Mod No w w') := vstep_any w ka kw kh kd v kind tc l hvp.ah.sl hvp.wo.sl hvp.hi.sl hvp.de hl (by rw [hvp.ok.len]; exact hk) (by omega) (by have := hvp.ok.len; have := hvp.n24; omega) (fun d hd => by have := (hvp.ok.tak d hd).1; omega)
  have hvs := vstep_small v hvp.ok kind tc l (by omega)
  have hvl := vstep_lt v hvp.ok kind tc l ht
  unfold M2.estep at hM
  generalize M2.vstep v kind tc l = st at hM H78 hvs hvl
  obtain ⟨sd, left⟩ := st
  simp only at hM H78 hvs hvl
  split at hM
  · rename_i x y hx hy
    have hx3 := hs.get hx
    have hy3 := hs.get hy
    have HR : Hid (r = if (sd ++ x).length < y.length then ([], left) else ((sd ++ x).drop y.length, left)) := by
      show r = if (sd ++ x).length < y.length then ([], left) else ((sd ++ x).drop y.length, left)
      split at hM
      · rename_i h; rw [if_pos h]; exact (Option.some.inj hM).symm
      · rename_i h; rw [if_neg h]; exact (Option.some.inj hM).symm
    have HO : Hid (OL v su ap base O ka kw kh kd vs va w) := hO
    have HX : Hid (M2.get2 su next left = some x ∧ M2.get2 su kind tc = some y) := ⟨hx, hy⟩
    have o0 := hO.blk.cell 0 rfl
    have o1 := hO.blk.cell 1 rfl
    have o2 := hO.blk.cell 2 rfl
    have o3 := hO.blk.cell 3 rfl
    have HV5 : Hid (vs = .slice (some ⟨gs, 0, none⟩) n cs) := h5
    subst h1 h2 h3 h4
    rw [← hn] at hk hx3 hy3
    have hn24 : n ≤ 24 := by rw [hn]; exact hvp.n24
    clear hM hvp hO hx hy hn hs
    go_enter Tryz.func96, Tryz.ntmps96
    go_wp2_with fail
    refine H78.out.mono ?_
    rintro e w1 ⟨rfl, m1⟩
    have HO1 := HO.out.no m1
    have q4 := HO1.blk.cell 4 rfl
    rw [HV5.out] at q4
    have hsu := HO1.su
    rw [HV5.out] at hsu
    have cx := sure_cell hsu hx3.2.1 HX.out.1
    have cy := sure_cell hsu hy3.2.1 HX.out.2
    have hki : (kind : Int) < (n : Int) := by omega
    have hni : (next : Int) < (n : Int) := by omega
    have hti : (tc : Int) < 4 := by omega
    have hlf : (left : Int) < 4 := by omega
    obtain ⟨SD, hSD⟩ : ∃ S, S = (⟨sd.toArray⟩ : ByteArray) := ⟨_, rfl⟩
    obtain ⟨X, hX⟩ : ∃ S, S = (⟨x.toArray⟩ : ByteArray) := ⟨_, rfl⟩
    obtain ⟨Y, hY⟩ : ∃ S, S = (⟨y.toArray⟩ : ByteArray) := ⟨_, rfl⟩
    have hs1 : SD.size = sd.length := by rw [hSD]; exact str_size sd
    have hs2 : X.size = x.length := by rw [hX]; exact str_size x
    have hs3 : Y.size = y.length := by rw [hY]; exact str_size y
    have HCAT : Hid (SD ++ X = ⟨(sd ++ x).toArray⟩) := by show SD ++ X = _; rw [hSD, hX, str_cat]
    rw [← hX] at cx
    rw [← hY] at cy
    rw [← hSD]
    have hcat : ¬ 9223372036854775807 < SD.size + X.size := by omega
    have HM1 : Hid (Mod No w w1) := m1
    clear H78 HO HO1 hsu m1 o0 o1 o2 o3 hSD hX hY HX
    by_cases hlt : (sd ++ x).length < y.length
    · have HR2 : Hid (r = ([], left)) := by have h := HR.out; rw [if_pos hlt] at h; exact h
      have hlt2 : SD.size + X.size < Y.size := by rw [List.length_append] at hlt; omega
      have hlt3 : (SD.size : Int) + (X.size : Int) < (Y.size : Int) := by omega
      go_wp2
      exact bodyPost_ret (v := .tuple #[.string ⟨#[]⟩, .int .i64 (left : Int)]) (by simp [results, Tryz.results96, go_sem]) rfl ⟨by rw [HR2.out], HM1.out⟩
    · have HR2 : Hid (r = ((sd ++ x).drop y.length, left)) := by have h := HR.out; rw [if_neg hlt] at h; exact h
      have hlt2 : ¬ SD.size + X.size < Y.size := by rw [List.length_append] at hlt; omega
      have hlt3 : ¬ (SD.size : Int) + (X.size : Int) < (Y.size : Int) := by omega
      go_wp2
      refine bodyPost_ret (v := .tuple #[.string ((SD ++ X).extract y.length (sd.length + x.length)), .int .i64 (left : Int)]) (by simp [results, Tryz.results96, go_sem]) rfl ⟨?_, HM1.out⟩
      rw [HR2.out, HCAT.out, ← List.length_append, str_drop]
  · cases hM
end Go.Proofs.YtmbapmbpnnaanabGreatDoor
namespace Go.Proofs.YtmbapmbpnnaanabGreatDoor
open Go.RowKit
attribute [local go_sem ↓] Go.wp_at_zero Go.wp_at_succ

theorem ap_get {a : List (List Bool)} {i j : Nat} {b : Bool} (hi : i < 4) (hj : j < 4) (h : (a[i]?).bind (·[j]?) = some b) : (ApE.f a)[i * 4 + j]? = some (.bool b) := by
  have e : b16 a i j = .bool b := by
    unfold b16
    cases hq : a[i]? with
    | none => rw [hq] at h; cases h
    | some r =>
      rw [hq] at h
      have h : r[j]? = some b := h
      simp [List.getD_eq_getElem?_getD, hq, h]
  match i, hi, j, hj with
  | 0, _, 0, _ => rw [← e]; rfl
  | 0, _, 1, _ => rw [← e]; rfl
  | 0, _, 2, _ => rw [← e]; rfl
  | 0, _, 3, _ => rw [← e]; rfl
  | 1, _, 0, _ => rw [← e]; rfl
  | 1, _, 1, _ => rw [← e]; rfl
  | 1, _, 2, _ => rw [← e]; rfl
  | 1, _, 3, _ => rw [← e]; rfl
  | 2, _, 0, _ => rw [← e]; rfl
  | 2, _, 1, _ => rw [← e]; rfl
  | 2, _, 2, _ => rw [← e]; rfl
  | 2, _, 3, _ => rw [← e]; rfl
  | 3, _, 0, _ => rw [← e]; rfl
  | 3, _, 1, _ => rw [← e]; rfl
  | 3, _, 2, _ => rw [← e]; rfl
  | 3, _, 3, _ => rw [← e]; rfl
/-- What is told apart: four by four of each kind. -/
structure AOk (a : M2.Apart) (n : Nat) : Prop where
  len : a.length = n
  four : ∀ r ∈ a, r.length = 4 ∧ ∀ q ∈ r, q.length = 4
theorem AOk.has {a : M2.Apart} {n : Nat} (h : AOk a n) {k i j : Nat} (hk : k < n) (hi : i < 4) (hj : j < 4) : ∃ b, M2.get3 a k i j = some b := by
  have h1 : k < a.length := by rw [h.len]; exact hk
  have h2 := h.four a[k] (List.getElem_mem h1)
  have h3 : i < a[k].length := by omega
  have h4 := h2.2 a[k][i] (List.getElem_mem h3)
  refine ⟨a[k][i][j]'(by omega), ?_⟩
  unfold M2.get3
  rw [List.getElem?_eq_getElem h1]
  show (a[k][i]?).bind (·[j]?) = _
  rw [List.getElem?_eq_getElem h3]
  show a[k][i][j]? = _
  rw [List.getElem?_eq_getElem]
theorem apart_cell {w : World} {g n cap : Nat} {a : M2.Apart} (h : Row ApE w (.slice (some ⟨g, 0, none⟩) n cap) a) {k i j : Nat} {b : Bool} (hi : i < 4) (hj : j < 4) (hb : M2.get3 a k i j = some b) : w.cell? ⟨g, k * 16 + i * 4 + j, none⟩ = some (.bool b) := by
  unfold M2.get3 at hb
  cases hq : a[k]? with
  | none => rw [hq] at hb; cases hb
  | some r =>
    rw [hq] at hb
    have := h.cell k (i * 4 + j) hq (ap_get hi hj hb)
    rw [Nat.add_assoc]; exact this

set_option maxHeartbeats 1600000 in
theorem leastE_any (w : World) (O ga n cap : Nat) (ap : M2.Apart) (c0 c1 c2 c3 c4 : Value) (hO : Blk w O [c0, c1, c2, c3, c4, .slice (some ⟨ga, 0, none⟩) n cap] 154) (ha : Row ApE w (.slice (some ⟨ga, 0, none⟩) n cap) ap) (hok : AOk ap n) (k tc : Nat) (hk : k < n) (_hn : n ≤ 1000) (ht : tc < 4) {r : Nat} (hM : M2.leastGo ap k tc 10 0 = some r) :
    Calls Tryz.prog 97 #[.pointer (some ⟨O, 0, none⟩), .int .i64 (k : Int), .int .i64 (tc : Int)] w fun e w' => e = .returned (.int .i64 (r : Int)) ∧ w' = w := by
  have HM : Hid (M2.leastGo ap k tc 10 0 = some r) := hM
  have HA : Hid (Row ApE w (.slice (some ⟨ga, 0, none⟩) n cap) ap) := ha
  have HOK : Hid (AOk ap n) := hok
  have o5 := hO.cell 5 rfl
  clear hO ha hok hM
  go_enter Tryz.func97, Tryz.ntmps97
  go_wp2_with fail
  go_loopg [7] 10 (fun gh v7 wr => ∃ le : Nat, v7 = .int .i64 (le : Int) ∧ le ≤ tc ∧ M2.leastGo ap k tc gh le = some r ∧ wr = w)
  case atStart => exact ⟨0, rfl, by omega, HM.out, rfl⟩
  case round =>
    obtain ⟨le, rfl, hle, hgo, rfl⟩ := hrel
    match gk, hgo with
    | 0, hgo => cases hgo
    | g + 1, hgo =>
      rw [M2.leastGo] at hgo
      by_cases hlt : tc ≤ le
      · rw [if_pos hlt] at hgo
        have HR : Hid (le = r) := Option.some.inj hgo
        have hli : ¬ (le : Int) < (tc : Int) := by omega
        clear hgo
        go_wp2
        go_ret
        exact ⟨by rw [HR.out]; rfl, rfl⟩
      · rw [if_neg hlt] at hgo
        obtain ⟨b, hb⟩ := HOK.out.has hk (by omega : le < 4) ht
        rw [hb] at hgo
        have cb := apart_cell HA.out (by omega) ht hb
        have hli : (le : Int) < (tc : Int) := by omega
        have hki : (k : Int) < (n : Int) := by omega
        have hl4 : (le : Int) < 4 := by omega
        have ht4 : (tc : Int) < 4 := by omega
        clear hb
        cases b with
        | true =>
          have HG : Hid (M2.leastGo ap k tc g (le + 1) = some r) := hgo
          clear hgo
          go_wp2
          go_roundg g
          case measure => omega
          case rel => exact ⟨le + 1, by go_num, by omega, HG.out, rfl⟩
        | false =>
          have HR : Hid (le = r) := Option.some.inj hgo
          clear hgo
          go_wp2
          go_ret
          exact ⟨by rw [HR.out]; rfl, rfl⟩

theorem commonAll_step (a w : List UInt8) (ws : List (List UInt8)) : M2.commonAll a (w :: ws) = M2.commonAll (a.take (Mir.common a w)) ws := rfl
theorem common_le : ∀ (a b : List UInt8), Mir.common a b ≤ a.length
  | [], b => by simp [Mir.common]
  | x :: a, [] => by simp [Mir.common]
  | x :: a, y :: b => by
    rw [Mir.common]
    split
    · have := common_le a b; simp; omega
    · simp

set_option maxHeartbeats 1600000 in
theorem commonE_any (w : World) (B o n cap : Nat) (ws : List (List UInt8)) (hc : ∀ i x, ws[i]? = some x → w.cell? ⟨B, o + i, none⟩ = some (.string ⟨x.toArray⟩)) (hl : ws.length = n) (hn0 : 0 < n) (hn : n ≤ 1000) (hs : ∀ x ∈ ws, x.length ≤ 1000000) :
    Calls Tryz.prog 98 #[.slice (some ⟨B, o, none⟩) n cap] w fun e w' => e = .returned (.string ⟨(M2.commonM ws).toArray⟩) ∧ Mod No w w' := by
  obtain ⟨x0, hx0⟩ : ∃ x, ws[0]? = some x := ⟨ws[0]'(by omega), List.getElem?_eq_getElem _⟩
  obtain ⟨r, hr⟩ : ∃ r, r = M2.commonM ws := ⟨_, rfl⟩
  rw [← hr]
  have HR : Hid (M2.commonAll x0 (ws.drop 0) = r) := by
    show M2.commonAll x0 (ws.drop 0) = r
    rw [hr]
    cases ws with
    | nil => simp at hx0
    | cons y ys => simp at hx0; subst hx0; rfl
  have HC : Hid (∀ i x, ws[i]? = some x → w.cell? ⟨B, o + i, none⟩ = some (.string ⟨x.toArray⟩)) := hc
  have HL : Hid (ws.length = n) := hl
  have HS : Hid (∀ x ∈ ws, x.length ≤ 1000000) := hs
  have HX0 : Hid (x0.length ≤ 1000000) := hs x0 (List.mem_of_getElem? hx0)
  have cx0 := hc 0 x0 hx0
  rw [Nat.add_zero] at cx0
  have hni : (0 : Int) < (n : Int) := by omega
  have hnb : ((n : Int) == 0) = false := by rw [beq_eq_false_iff_ne]; omega
  clear hc hl hs hr hx0
  go_enter Tryz.func98, Tryz.ntmps98
  go_wp2_with fail
  clear cx0
  go_loopg [3, 15] n (fun gh v3 v15 wr => ∃ (i : Nat) (a : List UInt8), i ≤ n ∧ gh = n - i ∧ v15 = .int .i64 (i : Int) ∧ v3 = .string ⟨a.toArray⟩ ∧ a.length ≤ 1000000 ∧ M2.commonAll a (ws.drop i) = r ∧ Mod No w wr)
  case atStart => exact ⟨0, x0, by omega, by omega, rfl, rfl, HX0.out, HR.out, Mod.refl _ _⟩
  case round =>
    obtain ⟨i, a, hin, hgk, rfl, rfl, ha, hgo, hm⟩ := hrel
    have HM : Hid (Mod No w wr) := hm
    clear HR
    by_cases hlt : i < n
    · obtain ⟨x, hx⟩ : ∃ x, ws[i]? = some x := ⟨ws[i]'(by have := HL.out; omega), List.getElem?_eq_getElem _⟩
      have hw := HC.out i x hx
      have cx : wr.cell? ⟨B, o + i, none⟩ = some (.string ⟨x.toArray⟩) := by
        have hb : B < w.heap.size := by
          have := block_lt_of_cell hw
          exact this
        unfold World.cell? at hw ⊢
        rw [hm.block B hb (fun x => x)]
        exact hw
      have hxs := HS.out x (List.mem_of_getElem? hx)
      have HGO : Hid (M2.commonAll (a.take (Mir.common a x)) (ws.drop (i + 1)) = r) := by
        show M2.commonAll (a.take (Mir.common a x)) (ws.drop (i + 1)) = r
        obtain ⟨h1, h2⟩ := List.getElem?_eq_some_iff.1 hx
        rw [← hgo, List.drop_eq_getElem_cons h1, h2, commonAll_step]
      have hcm := common_any ⟨a.toArray⟩ ⟨x.toArray⟩ wr (by rw [str_size]; omega) (by rw [str_size]; omega)
      rw [show ((⟨a.toArray⟩ : ByteArray).data.toList) = a by simp, show ((⟨x.toArray⟩ : ByteArray).data.toList) = x by simp] at hcm
      have hle := common_le a x
      generalize Mir.common a x = c at hcm hle HGO
      have HTK : Hid ((⟨a.toArray⟩ : ByteArray).extract 0 c = ⟨(a.take c).toArray⟩) := str_take a c
      have hasz : (⟨a.toArray⟩ : ByteArray).size = a.length := str_size a
      obtain ⟨A, hA⟩ : ∃ A, A = (⟨a.toArray⟩ : ByteArray) := ⟨_, rfl⟩
      rw [← hA] at hcm hasz HTK ⊢
      obtain ⟨X, hX⟩ : ∃ X, X = (⟨x.toArray⟩ : ByteArray) := ⟨_, rfl⟩
      rw [← hX] at hcm cx
      have hii : (i : Int) < (n : Int) := by omega
      have hci : (c : Int) ≤ (A.size : Int) := by omega
      have hcn : c ≤ A.size := by omega
      clear hm hgo hx hw hA hX
      go_wp2_with fail
      refine hcm.mono ?_
      rintro e w2 ⟨rfl, nq, rfl⟩
      clear hcm
      go_wp2
      go_roundg (n - (i + 1))
      case measure => omega
      case rel => exact ⟨i + 1, a.take c, by omega, rfl, by go_num, by rw [HTK.out], by rw [List.length_take]; omega, HGO.out, HM.out.drewN _⟩
    · obtain rfl : i = n := by omega
      have e1 : ws.drop i = [] := List.drop_of_length_le (by have := HL.out; omega)
      rw [e1] at hgo
      have HA : Hid (a = r) := hgo
      clear hgo e1 hm
      go_wp2
      go_ret
      exact ⟨by rw [← HA.out]; rfl, HM.out⟩
end Go.Proofs.YtmbapmbpnnaanabGreatDoor
namespace Go.Proofs.YtmbapmbpnnaanabGreatDoor
open Go.RowKit
attribute [local go_sem ↓] Go.wp_at_zero Go.wp_at_succ

theorem ix60_0 (S0 S1 S2 S3 : ByteArray) (w : World) : (Instr.index 105 (.agg #[.string S0, .string S1, .string S2, .string S3]) (.int .i64 0)).run Tryz.prog w = .ok (.string S0) w := by kernel_rfl
theorem ix60_1 (S0 S1 S2 S3 : ByteArray) (w : World) : (Instr.index 105 (.agg #[.string S0, .string S1, .string S2, .string S3]) (.int .i64 1)).run Tryz.prog w = .ok (.string S1) w := by kernel_rfl
theorem ix60_2 (S0 S1 S2 S3 : ByteArray) (w : World) : (Instr.index 105 (.agg #[.string S0, .string S1, .string S2, .string S3]) (.int .i64 2)).run Tryz.prog w = .ok (.string S2) w := by kernel_rfl
theorem ix60_3 (S0 S1 S2 S3 : ByteArray) (w : World) : (Instr.index 105 (.agg #[.string S0, .string S1, .string S2, .string S3]) (.int .i64 3)).run Tryz.prog w = .ok (.string S3) w := by kernel_rfl
theorem ix60 (S0 S1 S2 S3 Y : ByteArray) (j : Nat) (hj : j < 4) (hY : [S0, S1, S2, S3][j]? = some Y) (w : World) : (Instr.index 105 (.agg #[.string S0, .string S1, .string S2, .string S3]) (.int .i64 (j : Int))).run Tryz.prog w = .ok (.string Y) w := by
  match j, hj, hY with
  | 0, _, hY => have e : S0 = Y := Option.some.inj hY; rw [← e]; exact ix60_0 S0 S1 S2 S3 w
  | 1, _, hY => have e : S1 = Y := Option.some.inj hY; rw [← e]; exact ix60_1 S0 S1 S2 S3 w
  | 2, _, hY => have e : S2 = Y := Option.some.inj hY; rw [← e]; exact ix60_2 S0 S1 S2 S3 w
  | 3, _, hY => have e : S3 = Y := Option.some.inj hY; rw [← e]; exact ix60_3 S0 S1 S2 S3 w
theorem get2_set (s : M2.Sure) (i j : Nat) (x : List UInt8) (i' j' : Nat) (h : ¬ (i = i' ∧ j = j')) : M2.get2 (M2.set2 s i j x) i' j' = M2.get2 s i' j' := by
  unfold M2.get2 M2.set2
  rw [List.getElem?_modify]
  by_cases hi : i = i'
  · subst hi
    cases hq : s[i]? with
    | none => simp
    | some r =>
      have hj : j ≠ j' := fun e => h ⟨rfl, e⟩
      simp [hj]
  · simp [hi]
theorem SOk.set {s : M2.Sure} {n i j : Nat} {x : List UInt8} (h : SOk s n) (hx : x.length ≤ 1000) : SOk (M2.set2 s i j x) n := by
  unfold M2.set2
  refine ⟨by rw [List.length_modify]; exact h.len, fun r hr => ?_, fun r hr y hy => ?_⟩
  · obtain ⟨q, hq⟩ := List.mem_iff_getElem?.1 hr
    rw [List.getElem?_modify] at hq
    cases hs : s[q]? with
    | none => rw [hs] at hq; simp at hq
    | some r0 =>
      rw [hs] at hq
      have h0 := h.four r0 (List.mem_of_getElem? hs)
      by_cases hi : i = q
      · simp [hi] at hq; rw [← hq, List.length_set]; exact h0
      · simp [hi] at hq; rw [← hq]; exact h0
  · obtain ⟨q, hq⟩ := List.mem_iff_getElem?.1 hr
    rw [List.getElem?_modify] at hq
    cases hs : s[q]? with
    | none => rw [hs] at hq; simp at hq
    | some r0 =>
      rw [hs] at hq
      have h0 := h.sm r0 (List.mem_of_getElem? hs)
      by_cases hi : i = q
      · simp [hi] at hq
        rw [← hq] at hy
        rcases List.mem_or_eq_of_mem_set hy with h1 | h1
        · exact h0 y h1
        · rw [h1]; exact hx
      · simp [hi] at hq; rw [← hq] at hy; exact h0 y hy
theorem su_set {r : List (List UInt8)} {j : Nat} (x : List UInt8) (hr : r.length = 4) (hj : j < 4) : SuE.f (r.set j x) = (SuE.f r).set j (str x) := by
  match r, hr, j, hj with
  | [a, b, c, d], _, 0, _ => rfl
  | [a, b, c, d], _, 1, _ => rfl
  | [a, b, c, d], _, 2, _ => rfl
  | [a, b, c, d], _, 3, _ => rfl
theorem set2_eq {s : M2.Sure} {i j : Nat} {r : List (List UInt8)} (x : List UInt8) (h : s[i]? = some r) : M2.set2 s i j x = s.set i (r.set j x) := by
  unfold M2.set2
  apply List.ext_getElem?
  intro q
  rw [List.getElem?_modify, List.getElem?_set]
  by_cases hi : i = q
  · subst hi
    obtain ⟨h1, h2⟩ := List.getElem?_eq_some_iff.1 h
    simp [h1, h2]
  · simp [hi]
theorem OL.cut {v : M2.View} {su : M2.Sure} {ap : M2.Apart} {base O : Nat} {ka kw kh kd va : Value} {w : World} {gs n cap : Nat} (h : OL v su ap base O ka kw kh kd (.slice (some ⟨gs, 0, none⟩) n cap) va w) {N : Nat} (hs : SOk su N) {i j : Nat} {y : List UInt8} (hy : M2.get2 su i j = some y) (x : List UInt8) (hj : j < 4) :
    OL v (M2.set2 su i j x) ap base O ka kw kh kd (.slice (some ⟨gs, 0, none⟩) n cap) va (w.setCell ⟨gs, i * 4 + j, none⟩ (.string ⟨x.toArray⟩)) := by
  obtain ⟨r, h1, h2⟩ := get2_row hy
  have hm : Mod (fun q => q = gs) w (w.setCell ⟨gs, i * 4 + j, none⟩ (.string ⟨x.toArray⟩)) := (Mod.refl (fun q => q = gs) w).setCell (a := ⟨gs, i * 4 + j, none⟩) (fun _ => rfl) _
  have key : ∀ {α : Type} {E : Enc α} {v : Value} {xs : List α}, Row E w v xs → E.T ≠ 105 → Row E (w.setCell ⟨gs, i * 4 + j, none⟩ (.string ⟨x.toArray⟩)) v xs := fun hr ht => hr.mod hm (fun g hg e => hr.apart h.su ht hg (by rw [e]; rfl))
  have hv := h.vp
  refine ⟨h.blk.mod hm (fun e => h.blk.apart h.su (by decide) (by rw [e]; rfl)), ⟨hv.ok, hv.kok, hv.n24, hv.nh, key hv.ah (by decide), key hv.wo (by decide), key hv.hi (by decide), key hv.de (by decide), hv.fa, hv.fw, hv.fh, hv.fd⟩, ?_, key h.ap (by decide)⟩
  rw [set2_eq x h1]
  exact h.su.put i j h1 (x' := r.set j x) hj (su_set x (hs.four r (List.mem_of_getElem? h1)) hj)
theorem cut_step {v : M2.View} {kind l next n tc : Nat} {s : M2.Sure} {b : Bool} {R : Bool × M2.Sure} (h : M2.cutGo v kind l next (n + 1) tc s b = some R) :
    ∃ y x, M2.get2 s kind tc = some y ∧ M2.get2 s next (M2.vstep v kind tc l).2 = some x ∧ ((Mir.common y ((M2.vstep v kind tc l).1 ++ x) < y.length ∧ M2.cutGo v kind l next n (tc + 1) (M2.set2 s kind tc (y.take (Mir.common y ((M2.vstep v kind tc l).1 ++ x)))) true = some R) ∨ (¬ Mir.common y ((M2.vstep v kind tc l).1 ++ x) < y.length ∧ M2.cutGo v kind l next n (tc + 1) s b = some R)) := by
  rw [M2.cutGo] at h
  split at h
  · cases h
  · rename_i y hy
    dsimp only at h
    split at h
    · cases h
    · rename_i x hx
      refine ⟨y, x, hy, hx, ?_⟩
      split at h
      · rename_i hc; exact Or.inl ⟨hc, h⟩
      · rename_i hc; exact Or.inr ⟨hc, h⟩

set_option maxHeartbeats 1600000 in
set_option maxRecDepth 100000 in
theorem cut_any (w : World) (v : M2.View) (su : M2.Sure) (ap : M2.Apart) (base O : Nat) (ka kw kh kd va : Value) (gs n cap : Nat) (hO : OL v su ap base O ka kw kh kd (.slice (some ⟨gs, 0, none⟩) n cap) va w) (hn : n = v.k.ahead.length) (hs : SOk su n) (kind l next : Nat) (hk : kind < n) (hl : l < 4) {b' : Bool} {su' : M2.Sure} (hM : M2.cutGo v kind l next 4 0 su false = some (b', su')) :
    Calls Tryz.prog 128 #[.pointer (some ⟨O, 0, none⟩), .int .i64 (kind : Int), .int .i64 (l : Int), .int .i64 (next : Int)] w fun e w' => e = .returned (.bool b') ∧ OL v su' ap base O ka kw kh kd (.slice (some ⟨gs, 0, none⟩) n cap) va w' ∧ SOk su' n ∧ Mod (fun q => q = gs) w w' := by
  have hvp := hO.vp
  obtain ⟨a1, c1, h1, -, -⟩ := hvp.ah.open hn.symm
  obtain ⟨a2, c2, h2, -, -⟩ := hvp.wo.open rfl
  obtain ⟨a3, c3, h3, -, -⟩ := hvp.hi.open (n := n) (by rw [hvp.nh]; exact hn.symm)
  obtain ⟨a4, c4, h4, -, -⟩ := hvp.de.open (n := n) (by rw [hvp.ok.len]; exact hn.symm)
  generalize v.k.words.length = NW at h2
  have H78 : Hid (∀ (wx : World) (tc : Nat), VP v base ka kw kh kd wx → tc < 4 → Calls Tryz.prog 130 #[.agg #[ka, kw, kh, kd], .int .i64 (kind : Int), .int .i64 (tc : Int), .int .i64 (l : Int)] wx fun e w' => e = .returned (.tuple #[.string ⟨(M2.vstep v kind tc l).1.toArray⟩, .int .i64 ((M2.vstep v kind tc l).2 : Int)]) ∧ Mod No wx w') := fun wx tc hx ht => vstep_any wx ka kw kh kd v kind tc l hx.ah.sl hx.wo.sl hx.hi.sl hx.de hl (by rw [hx.ok.len]; omega) (by omega) (by have := hx.ok.len; have := hx.n24; omega) (fun d hd => by have := (hx.ok.tak d hd).1; omega)
  obtain ⟨r0, hr0⟩ : ∃ r0, su[kind]? = some r0 := ⟨su[kind]'(by rw [hs.len]; exact hk), List.getElem?_eq_getElem _⟩
  have hr4 := hs.four r0 (List.mem_of_getElem? hr0)
  obtain ⟨y0, y1, y2, y3, hry⟩ : ∃ y0 y1 y2 y3, r0 = [y0, y1, y2, y3] := by
    match r0, hr4 with
    | [a, b, c, d], _ => exact ⟨a, b, c, d, rfl⟩
  have HO : Hid (OL v su ap base O ka kw kh kd (.slice (some ⟨gs, 0, none⟩) n cap) va w) := hO
  have HV : Hid (VOk v ∧ v.k.ahead.length ≤ 24 ∧ n = v.k.ahead.length) := ⟨hvp.ok, hvp.n24, hn⟩
  have o4 := hO.blk.cell 4 rfl
  have x0 : w.cell? ⟨gs, kind * 4, none⟩ = some (.string ⟨y0.toArray⟩) := by have h := hO.su.cell kind 0 hr0 (u := str y0) (by rw [hry]; rfl); exact h
  have x1 : w.cell? ⟨gs, kind * 4 + 1, none⟩ = some (.string ⟨y1.toArray⟩) := by have h := hO.su.cell kind 1 hr0 (u := str y1) (by rw [hry]; rfl); exact h
  have x2 : w.cell? ⟨gs, kind * 4 + 2, none⟩ = some (.string ⟨y2.toArray⟩) := by have h := hO.su.cell kind 2 hr0 (u := str y2) (by rw [hry]; rfl); exact h
  have x3 : w.cell? ⟨gs, kind * 4 + 3, none⟩ = some (.string ⟨y3.toArray⟩) := by have h := hO.su.cell kind 3 hr0 (u := str y3) (by rw [hry]; rfl); exact h
  have HG0 : Hid (∀ (j : Nat) (y : List UInt8), M2.get2 su kind j = some y → [(⟨y0.toArray⟩ : ByteArray), ⟨y1.toArray⟩, ⟨y2.toArray⟩, ⟨y3.toArray⟩][j]? = some ⟨y.toArray⟩) := fun j y hy => by
    unfold M2.get2 at hy
    rw [hr0, hry] at hy
    have hy : [y0, y1, y2, y3][j]? = some y := hy
    have : ([y0, y1, y2, y3].map fun z => (⟨z.toArray⟩ : ByteArray))[j]? = some ⟨y.toArray⟩ := by rw [List.getElem?_map, hy]; rfl
    exact this
  have HS : Hid (SOk su n) := hs
  have HM : Hid (M2.cutGo v kind l next 4 0 su false = some (b', su')) := hM
  have hki : (kind : Int) < (n : Int) := by omega
  have hn24 : n ≤ 24 := by rw [hn]; exact hvp.n24
  generalize (⟨y0.toArray⟩ : ByteArray) = S0 at x0 HG0
  generalize (⟨y1.toArray⟩ : ByteArray) = S1 at x1 HG0
  generalize (⟨y2.toArray⟩ : ByteArray) = S2 at x2 HG0
  generalize (⟨y3.toArray⟩ : ByteArray) = S3 at x3 HG0
  clear hvp hO hs hM hr0 hr4 hry hn
  go_enter Tryz.func128, Tryz.ntmps128
  go_wp2_with fail
  clear o4 x0 x1 x2 x3
  go_loopg [9, 22] 4 (fun gh v9 v22 wr => ∃ (tc : Nat) (b : Bool) (s : M2.Sure), tc ≤ 4 ∧ gh = 4 - tc ∧ v22 = .int .i64 (tc : Int) ∧ v9 = .bool b ∧ M2.cutGo v kind l next gh tc s b = some (b', su') ∧ SOk s n ∧ (∀ j, tc ≤ j → M2.get2 s kind j = M2.get2 su kind j) ∧ OL v s ap base O ka kw kh kd (.slice (some ⟨gs, 0, none⟩) n cap) va wr ∧ Mod (fun q => q = gs) w wr)
  case atStart => exact ⟨0, false, su, by omega, rfl, rfl, rfl, HM.out, HS.out, fun j _ => rfl, HO.out, Mod.refl _ _⟩
  case round =>
    obtain ⟨tc, b, s, htc, hgk, rfl, rfl, hgo, hsk, hsame, hI, hm⟩ := hrel
    have HI : Hid (OL v s ap base O ka kw kh kd (.slice (some ⟨gs, 0, none⟩) n cap) va wr) := hI
    have HMD : Hid (Mod (fun q => q = gs) w wr) := hm
    clear HM HO HS
    match gk, hgk, hgo with
    | 0, hgk, hgo =>
      obtain rfl : tc = 4 := by omega
      have HB : Hid (b = b' ∧ s = su') := by
        have h : some (b, s) = some (b', su') := hgo
        cases h; exact ⟨rfl, rfl⟩
      have HSK : Hid (SOk s n) := hsk
      have h44 : ¬ ((4 : Nat) : Int) < 4 := by omega
      clear hgo hI hm hsame hsk hgk htc H78
      go_wp2
      go_ret
      exact ⟨by rw [← HB.out.1]; rfl, by rw [← HB.out.2, ← h1, ← h2, ← h3, ← h4]; exact HI.out, by rw [← HB.out.2]; exact HSK.out, HMD.out⟩
    | g + 1, hgk, hgo =>
      have ht4 : tc < 4 := by omega
      obtain ⟨y, x, hy, hx, hcase⟩ := cut_step hgo
      have h78 := H78.out wr tc hI.vp ht4
      have hvs := vstep_small v HV.out.1 kind tc l (by omega)
      have hvl := vstep_lt v HV.out.1 kind tc l ht4
      obtain ⟨sd, hsd⟩ : ∃ sd, sd = (M2.vstep v kind tc l).1 := ⟨_, rfl⟩
      obtain ⟨left, hleft⟩ : ∃ left, left = (M2.vstep v kind tc l).2 := ⟨_, rfl⟩
      rw [← hleft] at hx hvl
      rw [← hsd] at hcase
      rw [← hsd, ← hleft] at h78 hvs
      clear hsd hleft
      have hy3 := hsk.get hy
      have hx3 := hsk.get hx
      have hix := fun w => ix60 S0 S1 S2 S3 ⟨y.toArray⟩ tc ht4 (HG0.out tc y (by rw [← hsame tc (Nat.le_refl _)]; exact hy)) w
      have hcm : ∀ wx, Calls Tryz.prog 79 #[.string ⟨y.toArray⟩, .string ⟨(sd ++ x).toArray⟩] wx fun e w' => e = .returned (.int .i64 (Mir.common y (sd ++ x) : Int)) ∧ ∃ n, w' = wx.drewN n := fun wx => by
        have h := common_any ⟨y.toArray⟩ ⟨(sd ++ x).toArray⟩ wx (by rw [str_size]; omega) (by rw [str_size, List.length_append]; omega)
        rw [show ((⟨y.toArray⟩ : ByteArray).data.toList) = y by simp, show ((⟨(sd ++ x).toArray⟩ : ByteArray).data.toList) = sd ++ x by simp] at h
        exact h
      have hle := common_le y (sd ++ x)
      generalize Mir.common y (sd ++ x) = c at hcm hle hcase
      have HTK : Hid ((⟨y.toArray⟩ : ByteArray).extract 0 c = ⟨(y.take c).toArray⟩) := str_take y c
      obtain ⟨Y, hY⟩ : ∃ Y, Y = (⟨y.toArray⟩ : ByteArray) := ⟨_, rfl⟩
      have hYs : Y.size = y.length := by rw [hY]; exact str_size y
      obtain ⟨SD, hSD⟩ : ∃ S, S = (⟨sd.toArray⟩ : ByteArray) := ⟨_, rfl⟩
      obtain ⟨X, hX⟩ : ∃ S, S = (⟨x.toArray⟩ : ByteArray) := ⟨_, rfl⟩
      have hs1 : SD.size = sd.length := by rw [hSD]; exact str_size sd
      have hs2 : X.size = x.length := by rw [hX]; exact str_size x
      rw [← hY] at hcm HTK hix
      rw [← str_cat, ← hSD, ← hX] at hcm
      rw [← hSD] at h78
      have HX : Hid (X = (⟨x.toArray⟩ : ByteArray) ∧ M2.get2 s next left = some x ∧ M2.get2 s kind tc = some y) := ⟨hX, hx, hy⟩
      have o0 := hI.blk.cell 0 rfl
      have o1 := hI.blk.cell 1 rfl
      have o2 := hI.blk.cell 2 rfl
      have o3 := hI.blk.cell 3 rfl
      rw [h1] at o0 h78
      rw [h2] at o1 h78
      rw [h3] at o2 h78
      rw [h4] at o3 h78
      have hti : (tc : Int) < 4 := by omega
      have HSK : Hid (SOk s n) := hsk
      have HSAME : Hid (∀ j, tc ≤ j → M2.get2 s kind j = M2.get2 su kind j) := hsame
      clear hI hm hgo hsk hsame hx hy hY hSD hX
      go_wp2_with fail
      refine h78.mono ?_
      rintro e w1 ⟨rfl, m1⟩
      have HI1 : Hid (OL v s ap base O ka kw kh kd (.slice (some ⟨gs, 0, none⟩) n cap) va w1) := HI.out.no m1
      have HM1 : Hid (Mod (fun q => q = gs) w w1) := HMD.out.no m1
      clear h78 m1 o0 o1 o2 o3 HI HMD hix
      have q4 := HI1.out.blk.cell 4 rfl
      have cx := sure_cell HI1.out.su hx3.2.1 HX.out.2.1
      rw [← HX.out.1] at cx
      have hni : (next : Int) < (n : Int) := by omega
      have hlf : (left : Int) < 4 := by omega
      have hcat : ¬ 9223372036854775807 < SD.size + X.size := by omega
      go_wp2_with fail
      refine (hcm _).mono ?_
      rintro e w2 ⟨rfl, nq, rfl⟩
      have HI2 : Hid (OL v s ap base O ka kw kh kd (.slice (some ⟨gs, 0, none⟩) n cap) va (w1.drewN nq)) := HI1.out.no ((Mod.refl _ _).drewN _)
      have HM2 : Hid (Mod (fun q => q = gs) w (w1.drewN nq)) := HM1.out.drewN _
      generalize w1.drewN nq = w2 at HI2 HM2 ⊢
      clear hcm HI1 HM1 q4 cx hcat
      rcases hcase with ⟨hlt, hnext⟩ | ⟨hlt, hnext⟩
      · have HNEXT : Hid (M2.cutGo v kind l next g (tc + 1) (M2.set2 s kind tc (y.take c)) true = some (b', su')) := hnext
        have hci : (c : Int) < (Y.size : Int) := by omega
        have hci2 : (c : Int) ≤ (Y.size : Int) := by omega
        have hcn : c ≤ Y.size := by omega
        have q4 := HI2.out.blk.cell 4 rfl
        have cy := sure_cell HI2.out.su ht4 HX.out.2.2
        have fy := HI2.out.su.free (kind * 4 + tc)
        clear hnext
        go_wp2_with fail
        go_region
        all_goals
          have HI3 : Hid (OL v (M2.set2 s kind tc (y.take c)) ap base O ka kw kh kd (.slice (some ⟨gs, 0, none⟩) n cap) va ((w2.drew).setCell ⟨gs, kind * 4 + tc, none⟩ (.string ⟨(y.take c).toArray⟩))) := (HI2.out.no ((Mod.refl _ _).drew)).cut HSK.out HX.out.2.2 (y.take c) ht4
          have HM3 : Hid (Mod (fun q => q = gs) w ((w2.drew).setCell ⟨gs, kind * 4 + tc, none⟩ (.string ⟨(y.take c).toArray⟩))) := HM2.out.drew.setCell (a := ⟨gs, kind * 4 + tc, none⟩) (fun _ => rfl) _
          rw [← HTK.out] at HI3 HM3
          clear q4 cy fy
          go_wp2
          go_roundg g
          case measure => omega
          case rel => exact ⟨tc + 1, true, _, by omega, by omega, by go_num, rfl, HNEXT.out, HSK.out.set (by rw [List.length_take]; omega), fun j hj => by rw [get2_set _ _ _ _ _ _ (by omega)]; exact HSAME.out j (by omega), HI3.out, HM3.out⟩
      · have HNEXT : Hid (M2.cutGo v kind l next g (tc + 1) s b = some (b', su')) := hnext
        have hci : ¬ (c : Int) < (Y.size : Int) := by omega
        clear hnext
        go_wp2
        go_roundg g
        case measure => omega
        case rel => exact ⟨tc + 1, b, s, by omega, by omega, by go_num, rfl, HNEXT.out, HSK.out, fun j hj => HSAME.out j (by omega), HI2.out, HM2.out⟩
end Go.Proofs.YtmbapmbpnnaanabGreatDoor
