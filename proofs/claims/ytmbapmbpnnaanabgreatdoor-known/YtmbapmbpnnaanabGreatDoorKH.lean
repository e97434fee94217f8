import Derived.Test.YtmbapmbpnnaanabGreatDoorKF
namespace Go.Proofs.YtmbapmbpnnaanabGreatDoor
open Go.RowKit
attribute [local go_sem ↓] Go.wp_at_zero Go.wp_at_succ

theorem toList_data (s : ByteArray) : s.toList = s.data.toList := by
  have := Lib.extract_toList s 0 s.size
  have h2 : s.extract 0 s.size = s := by simp
  rw [h2] at this
  rw [this, List.drop_zero, Nat.sub_zero]
  refine List.take_of_length_le ?_
  show s.data.toList.length ≤ s.data.size
  simp
theorem empty_iff (s : ByteArray) : s.toList.isEmpty = decide (s.size = 0) := by
  rw [toList_data]
  cases h : s.data.toList with
  | nil =>
    have : s.size = 0 := by show s.data.size = 0; rw [← Array.length_toList, h]; rfl
    simp [this]
  | cons a l =>
    have : ¬ s.size = 0 := by show ¬ s.data.size = 0; rw [← Array.length_toList, h]; simp
    simp [this]

theorem ext_data {a b : ByteArray} (h : a.data.toList = b.data.toList) : a = b := by
  obtain ⟨⟨a⟩⟩ := a
  obtain ⟨⟨b⟩⟩ := b
  exact congrArg (fun l => (⟨⟨l⟩⟩ : ByteArray)) h
theorem extract_data (s : ByteArray) (i j : Nat) : (s.extract i j).data.toList = (s.data.toList.drop i).take (j - i) := by
  rw [← toList_data]; exact Lib.extract_toList s i j
theorem extract_one (s : ByteArray) (k : Nat) (h : k < s.size) : s.extract k (k + 1) = ⟨#[s[k]]⟩ := by
  refine ext_data ?_
  rw [extract_data]
  have hk : k < s.data.toList.length := by simpa using h
  rw [List.drop_eq_getElem_cons hk, show k + 1 - k = 1 by omega]
  rfl
theorem data_len (s : ByteArray) : s.data.toList.length = s.size := by simp

def b4C (t : List Bool) : List Value := [.bool (t.getD 0 false), .bool (t.getD 1 false), .bool (t.getD 2 false), .bool (t.getD 3 false)]
theorem b4C_set (t : List Bool) (h : t.length = 4) (i : Nat) (hi : i < 4) (x : Bool) : b4C (t.set i x) = (b4C t).set i (.bool x) := by
  match t, h with
  | [a, b, c, d], _ => match i, hi with
    | 0, _ => rfl
    | 1, _ => rfl
    | 2, _ => rfl
    | 3, _ => rfl
theorem four_of {t : List Bool} (h : t.length = 4) : ∃ a b c d, t = [a, b, c, d] := by
  match t, h with
  | [a, b, c, d], _ => exact ⟨a, b, c, d, rfl⟩
theorem allOf_snoc (l : List UInt8) (c : UInt8) : ∀ t, Mir.allOf (l ++ [c]) t = (Mir.allOf l t).set (Mir.num c) true := by
  induction l with
  | nil => intro t; rfl
  | cons a l ih => intro t; exact ih _
theorem allOf_len (l : List UInt8) : ∀ t, (Mir.allOf l t).length = t.length := by
  induction l with
  | nil => intro t; rfl
  | cons a l ih => intro t; exact (ih _).trans (by simp)

set_option maxHeartbeats 1000000 in
set_option maxRecDepth 100000 in
theorem allOf_any (s : ByteArray) (w : World) (hs : s.size ≤ 1048576) :
    Calls Tryz.prog 117 #[.string s] w fun e w' => e = .returned (b4V (Mir.allOf s.data.toList Mir.none4)) ∧ Mod No w w' := by
  obtain ⟨l, hl⟩ : ∃ l, l = s.data.toList := ⟨_, rfl⟩
  have HSZ : Hid (s.size = l.length) := by show s.size = l.length; rw [hl, data_len]
  have HG : Hid (∀ (i : Nat) (h : i < s.size), l[i]? = some s[i]) := fun i h => by rw [hl]; exact Lib.data_getElem? s i h
  rw [← hl]
  clear hl
  have HNUM : Hid (∀ (c : UInt8) (w : World), Calls Tryz.prog 47 #[.int .u8 (c.toNat : Int)] w fun e w' => e = .returned (.int .i64 (Mir.num c : Int)) ∧ w' = w) := number_any
  go_enter Tryz.func117, Tryz.ntmps117
  go_wp2
  go_loopw [4] (fun ii wr => ∃ (i : Nat), i ≤ s.size ∧ ii = .int .i64 (i : Int) ∧ Blk wr (w.heap.size + 1) (b4C (Mir.allOf (l.take i) Mir.none4)) 242 ∧ Blk wr w.heap.size [.bool false, .bool false, .bool false, .bool false] 242 ∧ Mod No w wr) (fun ii _ => s.size - (intOf ii).toNat)
  case atStart => exact ⟨0, by omega, rfl, new2_1 _ _ _, new2_0 _ _ _, ((Mod.refl _ _).alloc _).alloc _⟩
  case round =>
    obtain ⟨i, hi, rfl, hb, hr, hm⟩ := hrel
    have h4 : (Mir.allOf (l.take i) Mir.none4).length = 4 := allOf_len _ _
    generalize ht : Mir.allOf (l.take i) Mir.none4 = t at hb h4
    by_cases hlt : i < s.size
    · have hi1 : (i : Int) < (s.size : Int) := by omega
      have hx := HG.out i hlt
      generalize hc : s[i] = c at hx
      have hnl := num_lt c
      have hcall := HNUM.out c
      have HT : Hid (Mir.allOf (l.take (i + 1)) Mir.none4 = t.set (Mir.num c) true) := by
        show Mir.allOf (l.take (i + 1)) Mir.none4 = t.set (Mir.num c) true
        rw [List.take_add_one, hx, ← ht]
        exact allOf_snoc _ _ _
      have HB : Hid (Blk wr (w.heap.size + 1) (b4C t) 242) := hb
      have HR : Hid (Blk wr w.heap.size [.bool false, .bool false, .bool false, .bool false] 242) := hr
      have HM : Hid (Mod No w wr) := hm
      generalize hk : Mir.num c = k at hnl hcall HT
      have e : ∃ v, (b4C t)[k]? = some v := ⟨(b4C t)[k]'(by simp [b4C]; omega), List.getElem?_eq_getElem _⟩
      obtain ⟨v, hv⟩ := e
      have ck := hb.cell k hv
      have fk := hb.free k
      have hk4 : (k : Int) < 4 := by omega
      clear hx hk hv hb hr hm ht
      go_wp2_with fail
      refine (hcall _).mono ?_
      rintro e w1 ⟨rfl, rfl⟩
      clear hcall
      go_wp2
      go_roundw
      case rel =>
        refine ⟨i + 1, by omega, by go_num, ?_, HR.out.other (a := ⟨w.heap.size + 1, k, none⟩) (by simp) _, HM.out.setCell (a := ⟨w.heap.size + 1, k, none⟩) (fun h => absurd h (by simp)) _⟩
        rw [HT.out, b4C_set t h4 k hnl true]
        exact HB.out.set k _
      case measure => simp [intOf]; omega
    · obtain rfl : i = s.size := by omega
      have HT : Hid (Mir.allOf l Mir.none4 = t) := by
        show Mir.allOf l Mir.none4 = t
        rw [← ht, List.take_of_length_le (by have := HSZ.out; omega)]
      clear ht
      obtain ⟨x0, x1, x2, x3, rfl⟩ := four_of h4
      change Blk wr (w.heap.size + 1) [.bool x0, .bool x1, .bool x2, .bool x3] 242 at hb
      have c0 := hb.cell 0 rfl
      have c1 := hb.cell 1 rfl
      have c2 := hb.cell 2 rfl
      have c3 := hb.cell 3 rfl
      have r0 := hr.cell 0 rfl
      have r1 := hr.cell 1 rfl
      have r2 := hr.cell 2 rfl
      have r3 := hr.cell 3 rfl
      have f0 := hr.free 0
      have f1 := hr.free 1
      have f2 := hr.free 2
      have f3 := hr.free 3
      have HM : Hid (Mod No w wr) := hm
      clear hb hr hm
      go_wp2
      refine bodyPost_ret (v := .agg #[.bool x0, .bool x1, .bool x2, .bool x3]) (by simp [results, Tryz.results117, go_sem, r0, r1, r2, r3]) rfl ⟨by rw [HT.out]; rfl, ?_⟩
      exact (((HM.out.setCell (a := ⟨w.heap.size, 0, none⟩) (fun h => absurd h (by simp)) _).setCell (a := ⟨w.heap.size, 1, none⟩) (fun h => absurd h (by simp)) _).setCell (a := ⟨w.heap.size, 2, none⟩) (fun h => absurd h (by simp)) _).setCell (a := ⟨w.heap.size, 3, none⟩) (fun h => absurd h (by simp)) _

theorem map_not_set (t : List Bool) (h : t.length = 4) : ∃ a b c d, t = [a, b, c, d] ∧ t.map not = [!a, !b, !c, !d] := by
  obtain ⟨a, b, c, d, rfl⟩ := four_of h
  exact ⟨a, b, c, d, rfl, rfl⟩

set_option maxHeartbeats 1000000 in
set_option maxRecDepth 100000 in
theorem allBut_any (s : ByteArray) (w : World) (hs : s.size ≤ 1048576) :
    Calls Tryz.prog 164 #[.string s] w fun e w' => e = .returned (b4V (Mir.allBut s.data.toList)) ∧ Mod No w w' := by
  have HALL : Hid (∀ o, Calls Tryz.prog 117 #[.string s] (w.alloc o) fun e w' => e = .returned (b4V (Mir.allOf s.data.toList Mir.none4)) ∧ Mod No (w.alloc o) w') := fun o => allOf_any s _ hs
  obtain ⟨x0, x1, x2, x3, ht, hn⟩ := map_not_set _ (allOf_len s.data.toList Mir.none4)
  have HE : Hid (Mir.allBut s.data.toList = [!x0, !x1, !x2, !x3]) := hn
  rw [ht] at HALL
  clear ht hn
  rw [HE.out]
  clear HE
  go_enter Tryz.func164, Tryz.ntmps164
  go_wp2_with fail
  refine (HALL.out _).mono ?_
  rintro e w1 ⟨rfl, hm1⟩
  clear HALL
  unfold b4V
  have hr0 : Blk w1 w.heap.size [.bool false, .bool false, .bool false, .bool false] 242 := Blk.mod (heap_alloc_new w _) hm1 (fun x => x)
  have HM : Hid (Mod No w w1) := ((Mod.refl _ _).alloc _).no hm1
  have hsz := hm1.size
  simp at hsz
  have HR : Hid (Blk w1 w.heap.size [.bool false, .bool false, .bool false, .bool false] 242) := hr0
  clear hm1 hr0
  go_wp2
  go_loopw [7] (fun ii wr => ∃ (i : Nat), i ≤ 4 ∧ ii = .int .i64 (i : Int) ∧ Blk wr w1.heap.size ([.bool !x0, .bool !x1, .bool !x2, .bool !x3].take i ++ [.bool x0, .bool x1, .bool x2, .bool x3].drop i) 242 ∧ Blk wr w.heap.size [.bool false, .bool false, .bool false, .bool false] 242 ∧ Mod No w wr) (fun ii _ => 4 - (intOf ii).toNat)
  case atStart => exact ⟨0, by omega, rfl, heap_alloc_new w1 _, HR.out.alloc _, HM.out.alloc _⟩
  case round =>
    obtain ⟨i, hi, rfl, hb, hr, hm⟩ := hrel
    have HB : Hid (Blk wr w1.heap.size ([.bool !x0, .bool !x1, .bool !x2, .bool !x3].take i ++ [.bool x0, .bool x1, .bool x2, .bool x3].drop i) 242) := hb
    have HR : Hid (Blk wr w.heap.size [.bool false, .bool false, .bool false, .bool false] 242) := hr
    have HM : Hid (Mod No w wr) := hm
    have hne : w.heap.size ≠ w1.heap.size := by omega
    match i, hi with
    | 0, _ =>
      have c0 := hb.cell 0 rfl
      have f0 := hb.free 0
      clear hb hr hm
      go_wp2
      go_roundw
      case rel => exact ⟨1, by omega, rfl, HB.out.set 0 _, HR.out.other (a := ⟨w1.heap.size, 0, none⟩) hne _, HM.out.setCell (a := ⟨w1.heap.size, 0, none⟩) (fun h => absurd h (by simp; omega)) _⟩
      case measure => simp [intOf]
    | 1, _ =>
      have c0 := hb.cell 1 rfl
      have f0 := hb.free 1
      clear hb hr hm
      go_wp2
      go_roundw
      case rel => exact ⟨2, by omega, rfl, HB.out.set 1 _, HR.out.other (a := ⟨w1.heap.size, 1, none⟩) hne _, HM.out.setCell (a := ⟨w1.heap.size, 1, none⟩) (fun h => absurd h (by simp; omega)) _⟩
      case measure => simp [intOf]
    | 2, _ =>
      have c0 := hb.cell 2 rfl
      have f0 := hb.free 2
      clear hb hr hm
      go_wp2
      go_roundw
      case rel => exact ⟨3, by omega, rfl, HB.out.set 2 _, HR.out.other (a := ⟨w1.heap.size, 2, none⟩) hne _, HM.out.setCell (a := ⟨w1.heap.size, 2, none⟩) (fun h => absurd h (by simp; omega)) _⟩
      case measure => simp [intOf]
    | 3, _ =>
      have c0 := hb.cell 3 rfl
      have f0 := hb.free 3
      clear hb hr hm
      go_wp2
      go_roundw
      case rel => exact ⟨4, by omega, rfl, HB.out.set 3 _, HR.out.other (a := ⟨w1.heap.size, 3, none⟩) hne _, HM.out.setCell (a := ⟨w1.heap.size, 3, none⟩) (fun h => absurd h (by simp; omega)) _⟩
      case measure => simp [intOf]
    | 4, _ =>
      have c0 := hb.cell 0 rfl
      have c1 := hb.cell 1 rfl
      have c2 := hb.cell 2 rfl
      have c3 := hb.cell 3 rfl
      have r0 := hr.cell 0 rfl
      have r1 := hr.cell 1 rfl
      have r2 := hr.cell 2 rfl
      have r3 := hr.cell 3 rfl
      have f0 := hr.free 0
      have f1 := hr.free 1
      have f2 := hr.free 2
      have f3 := hr.free 3
      clear hb hr hm
      go_wp2
      refine bodyPost_ret (v := .agg #[.bool !x0, .bool !x1, .bool !x2, .bool !x3]) (by simp [results, Tryz.results164, go_sem, r0, r1, r2, r3]) rfl ⟨rfl, ?_⟩
      exact (((HM.out.setCell (a := ⟨w.heap.size, 0, none⟩) (fun h => absurd h (by simp)) _).setCell (a := ⟨w.heap.size, 1, none⟩) (fun h => absurd h (by simp)) _).setCell (a := ⟨w.heap.size, 2, none⟩) (fun h => absurd h (by simp)) _).setCell (a := ⟨w.heap.size, 3, none⟩) (fun h => absurd h (by simp)) _

theorem rising_end (l : List UInt8) (j : Nat) (h : l.length ≤ j + 1) : Mir.rising (l.drop j) = true := by
  have : (l.drop j).length ≤ 1 := by rw [List.length_drop]; omega
  match l.drop j, this with
  | [], _ => rfl
  | [a], _ => rfl
theorem rising_step (l : List UInt8) (j : Nat) (a b : UInt8) (ha : l[j]? = some a) (hb : l[j + 1]? = some b) : Mir.rising (l.drop j) = (decide (a.toNat < b.toNat) && Mir.rising (l.drop (j + 1))) := by
  obtain ⟨h1, rfl⟩ := List.getElem?_eq_some_iff.1 ha
  obtain ⟨h2, rfl⟩ := List.getElem?_eq_some_iff.1 hb
  rw [List.drop_eq_getElem_cons h1, List.drop_eq_getElem_cons h2]
  rfl

set_option maxHeartbeats 1000000 in
set_option maxRecDepth 100000 in
theorem isRising_any (s : ByteArray) (w : World) (hs : s.size ≤ 1048576) :
    Calls Tryz.prog 166 #[.string s] w fun e w' => e = .returned (.bool (Mir.rising s.data.toList)) ∧ ∃ n, w' = w.drewN n := by
  obtain ⟨l, hl⟩ : ∃ l, l = s.data.toList := ⟨_, rfl⟩
  have HSZ : Hid (s.size = l.length) := by show s.size = l.length; rw [hl, data_len]
  have HG : Hid (∀ (i : Nat) (h : i < s.size), l[i]? = some s[i]) := fun i h => by rw [hl]; exact Lib.data_getElem? s i h
  rw [← hl]
  clear hl
  go_enter Tryz.func166, Tryz.ntmps166
  go_wp2
  go_loopw [3] (fun ii wr => ∃ (j n : Nat), j ≤ s.size ∧ ii = .int .i64 ((j : Int) + 1) ∧ Mir.rising (l.drop j) = Mir.rising l ∧ wr = w.drewN n) (fun ii _ => s.size + 1 - (intOf ii).toNat)
  case atStart => exact ⟨0, 0, by omega, rfl, by simp, rfl⟩
  case round =>
    obtain ⟨j, n, hj, rfl, hR, rfl⟩ := hrel
    by_cases hlt : j + 1 < s.size
    · have h1 := HG.out j (by omega)
      have h2 := HG.out (j + 1) hlt
      have hst := rising_step l j _ _ h1 h2
      have hi1 : (j : Int) + 1 < (s.size : Int) := by omega
      have hi2 : (j : Int) < (s.size : Int) := by omega
      have hi3 : (0 : Int) ≤ (j : Int) := by omega
      have hi4 : (0 : Int) ≤ (j : Int) + 1 := by omega
      have ht : ((j : Int) + 1).toNat = j + 1 := by omega
      rw [hR] at hst
      by_cases hc : (s[j]'(by omega)).toNat < (s[j + 1]).toNat
      · have hci : ¬ ((s[j + 1]).toNat : Int) ≤ ((s[j]'(by omega)).toNat : Int) := by omega
        have HR2 : Hid (Mir.rising (l.drop (j + 1)) = Mir.rising l) := by
          show _ = _
          rw [hst, decide_eq_true hc, Bool.true_and]
        clear h1 h2 hst hR
        go_wp2
        go_quiet (fail)
        go_wp2
        go_roundw
        case rel => exact ⟨j + 1, _, by omega, by go_num, HR2.out, rfl⟩
        case measure => simp [intOf]; omega
      · have hci : ((s[j + 1]).toNat : Int) ≤ ((s[j]'(by omega)).toNat : Int) := by omega
        have HR2 : Hid (Mir.rising l = false) := by
          show _ = _
          rw [hst, decide_eq_false hc, Bool.false_and]
        clear h1 h2 hst hR
        go_wp2
        go_quiet (fail)
        go_wp2
        go_ret
        exact ⟨by rw [HR2.out]; rfl, _, World.drewN_drewN _ _ _⟩
    · have hi1 : ¬ (j : Int) + 1 < (s.size : Int) := by omega
      have HR2 : Hid (Mir.rising l = true) := by
        show _ = _
        rw [← hR]
        exact rising_end l j (by have := HSZ.out; omega)
      clear hR
      go_wp2
      go_ret
      exact ⟨by rw [HR2.out]; rfl, _, rfl⟩

set_option maxHeartbeats 1000000 in
theorem letter_any (b : Nat) (X : List Value) (T : Nat) (s : ByteArray) (p : Mir.PS) (w : World) (hs : s.size ≤ 1048576) (hr : Rd w b X T s p.k p.bad) :
    Calls Tryz.prog 165 #[.pointer (some ⟨b, 0, none⟩)] w fun e w' => e = .returned (.string ⟨(Mir.letterM s.data.toList p).1.toArray⟩) ∧ Rd w' b X T s (Mir.letterM s.data.toList p).2.k (Mir.letterM s.data.toList p).2.bad ∧ w.grownBy w' (some b) := by
  obtain ⟨k, bad, ps⟩ := p
  have HIS := is_any
  have HIS : Hid (∀ (c : UInt8) (w : World), Calls Tryz.prog 76 #[.int .u8 (c.toNat : Int)] w fun e w' => e = .returned (.bool (Mir.isL c)) ∧ w' = w) := HIS
  have c0 := hr.c0
  have c1 := hr.c1
  have c2 := hr.c2
  have f1 := hr.f1
  have f2 := hr.f2
  have HR : Hid (Rd w b X T s k bad) := hr
  clear hr
  by_cases hk : k < s.size
  · have hg : s.data.toList[k]? = some s[k] := Lib.data_getElem? s k hk
    have hi : (k : Int) < (s.size : Int) := by omega
    have hi0 : (0 : Int) ≤ (k : Int) := by omega
    have hd : decide (s.size ≤ k) = false := decide_eq_false (by omega)
    cases hl : Mir.isL s[k] with
    | true =>
      have e : Mir.letterM s.data.toList ⟨k, bad, ps⟩ = ([s[k]], ⟨k + 1, bad, ps⟩) := by
        simp only [Mir.letterM, hg, hl, if_true]
      rw [e]
      clear e hg
      go_enter Tryz.func165, Tryz.ntmps165
      go_wp2
      go_quiet ((go_at_call 76; exact Calls.quiet_of_same (by have := HIS.out s[k]; rw [hl] at this; exact this _)))
      have hr2 : Rd ((w.drewN nq).setCell ⟨b, 1, none⟩ (.int .i64 ((k + 1 : Nat) : Int))) b X T s (k + 1) bad := (HR.out.drewN nq).set1 (k + 1)
      have HG : Hid (w.grownBy ((w.drewN nq).setCell ⟨b, 1, none⟩ (.int .i64 ((k + 1 : Nat) : Int))) (some b)) := grown_trans (grown_drewN w nq _) (grown_set _ b 1 _)
      generalize hw2 : (w.drewN nq).setCell ⟨b, 1, none⟩ (.int .i64 ((k + 1 : Nat) : Int)) = w2 at hr2 HG
      have HR2 : Hid (Rd w2 b X T s (k + 1) bad) := hr2
      have e0 := hr2.c0
      have e1 := hr2.c1
      have hw3 : (w.drewN nq).setCell ⟨b, 1, none⟩ (.int .i64 ((k : Int) + 1)) = w2 := by rw [← hw2]; congr 1
      clear hr2 hw2
      go_wp2
      clear hw3 c0 c1 c2 f1 f2
      have hi5 : (k : Int) + 1 ≤ (s.size : Int) := by omega
      have hi6 : (0 : Int) ≤ (k : Int) + 1 := by omega
      have hi7 : (k : Int) ≤ (k : Int) + 1 := by omega
      have ht : ((k : Int) + 1).toNat = k + 1 := by omega
      go_quiet (fail)
      go_wp2
      go_ret
      refine ⟨?_, HR2.out.drewN _, grown_trans HG.out (grown_drewN _ _ _)⟩
      show Ending.returned (.string (s.extract k (k + 1))) = _
      rw [extract_one s k hk]
    | false =>
      have e : Mir.letterM s.data.toList ⟨k, bad, ps⟩ = ([], ⟨k, true, ps⟩) := by
        simp only [Mir.letterM, hg, hl, Mir.failM]; simp
      rw [e]
      clear e hg
      go_enter Tryz.func165, Tryz.ntmps165
      go_wp2
      go_quiet ((go_at_call 76; exact Calls.quiet_of_same (by have := HIS.out s[k]; rw [hl] at this; exact this _)))
      go_wp2
      go_ret
      exact ⟨rfl, (HR.out.drewN _).set2, grown_trans (grown_drewN _ _ _) (grown_set _ _ _ _)⟩
  · have e : Mir.letterM s.data.toList ⟨k, bad, ps⟩ = ([], ⟨k, true, ps⟩) := by
      simp only [Mir.letterM, at_none (show s.size ≤ k by omega), Mir.failM]
    rw [e]
    have hd : decide (s.size ≤ k) = true := decide_eq_true (by omega)
    have hi : ¬ (k : Int) < (s.size : Int) := by omega
    clear e
    go_enter Tryz.func165, Tryz.ntmps165
    go_wp2
    go_quiet ((go_at_call 76; exact Calls.quiet_of_same (HIS.out _ _)))
    go_wp2
    go_ret
    exact ⟨rfl, (HR.out.drewN _).set2, grown_trans (grown_drewN _ _ _) (grown_set _ _ _ _)⟩
end Go.Proofs.YtmbapmbpnnaanabGreatDoor
namespace Go.Proofs.YtmbapmbpnnaanabGreatDoor
open Go.RowKit
attribute [local go_sem ↓] Go.wp_at_zero Go.wp_at_succ

/-- The parser in block b, on its way along the text s. -/
structure PSt (w : World) (b : Nat) (s : ByteArray) (vp : Value) (p : Mir.PS) : Prop where
  blk : Blk w b [.string s, .int .i64 (p.k : Int), .bool p.bad, vp, .bool false, .int .u32 0, .int .u32 0] 189
  row : Row PlE w vp p.ps
  ne : vp.ownBlock ≠ some b
  ok : PsOk p.ps
  ks : p.k ≤ s.size
/-- The parser has gone on. -/
def Led (w w' : World) (b : Nat) (s : ByteArray) (vp : Value) (p' : Mir.PS) : Prop := ∃ vp', PSt w' b s vp' p' ∧ Fresh w vp vp' ∧ Mod (Pt b vp) w w'

section
variable {w w1 w2 w' : World} {b : Nat} {s : ByteArray} {vp vp1 : Value} {p p1 p2 : Mir.PS}
theorem PSt.rd (h : PSt w b s vp p) : Rd w b [vp, .bool false, .int .u32 0, .int .u32 0] 189 s p.k p.bad := h.blk
theorem PSt.lt (h : PSt w b s vp p) : b < w.heap.size := h.blk.lt
theorem PSt.own (h : PSt w b s vp p) {g : Nat} (hg : vp.ownBlock = some g) : g < w.heap.size := h.row.lt hg
theorem PSt.drewN (h : PSt w b s vp p) (n : Nat) : PSt (w.drewN n) b s vp p := ⟨h.blk, h.row, h.ne, h.ok, h.ks⟩
theorem PSt.drew (h : PSt w b s vp p) : PSt w.drew b s vp p := ⟨h.blk, h.row, h.ne, h.ok, h.ks⟩
theorem PSt.alloc (h : PSt w b s vp p) (o : Obj) : PSt (w.alloc o) b s vp p := ⟨h.blk.alloc o, h.row.alloc o, h.ne, h.ok, h.ks⟩
theorem PSt.no (h : PSt w b s vp p) (hm : Mod No w w') : PSt w' b s vp p := ⟨h.blk.mod hm (fun x => x), h.row.no hm, h.ne, h.ok, h.ks⟩
theorem PSt.other (h : PSt w b s vp p) {a : Addr} (h1 : b ≠ a.block) (h2 : vp.ownBlock ≠ some a.block) (v : Value) : PSt (w.setCell a v) b s vp p := ⟨h.blk.other h1 v, h.row.other h2 v, h.ne, h.ok, h.ks⟩
theorem Fresh.refl (w : World) (v : Value) : Fresh w v v := fun _ h => Or.inl h
theorem Fresh.trans {v v1 v2 : Value} (h1 : Fresh w v v1) (h2 : Fresh w1 v1 v2) (hs : w.heap.size ≤ w1.heap.size) : Fresh w v v2 := fun g hg => by
  rcases h2 g hg with h | h
  · exact h1 g h
  · exact Or.inr (by omega)
theorem Fresh.old {v v' : Value} (h : Fresh w v v') {g : Nat} (h1 : v.ownBlock ≠ some g) (h2 : g < w.heap.size) : v'.ownBlock ≠ some g := fun e => by
  rcases h g e with h3 | h3
  · exact h1 h3
  · omega
theorem Pt.fresh (hf : Fresh w vp vp1) : ∀ k, k < w.heap.size → Pt b vp1 k → Pt b vp k := fun k hk h => by
  rcases h with h | h
  · exact Or.inl h
  · rcases hf k h with h2 | h2
    · exact Or.inr h2
    · omega
/-- Of a reader's step: the block b alone has changed. -/
theorem PSt.step (h : PSt w b s vp p) {k : Nat} {bad : Bool} (hr : Rd w' b [vp, .bool false, .int .u32 0, .int .u32 0] 189 s k bad) (hg : w.grownBy w' (some b)) (hk : k ≤ s.size) : PSt w' b s vp ⟨k, bad, p.ps⟩ :=
  ⟨hr, h.row.grown hg (Or.inr (fun e => h.ne e)), h.ne, h.ok, hk⟩
theorem Mod.step (hg : w.grownBy w' (some b)) : Mod (Pt b vp) w w' := Mod.of_grown hg fun g e => by cases e; exact Or.inl rfl
theorem PSt.led (h : PSt w b s vp p) (hm : Mod (Pt b vp) w1 w) : Led w1 w b s vp p := ⟨vp, h, Fresh.refl _ _, hm⟩
theorem Led.refl (h : PSt w b s vp p) : Led w w b s vp p := h.led (Mod.refl _ _)
/-- On from where it stood (vp1: where the places lay then). -/
theorem Led.next (hf : Fresh w vp vp1) (hm : Mod (Pt b vp) w w1) (h : Led w1 w2 b s vp1 p2) : Led w w2 b s vp p2 := by
  obtain ⟨vp2, h2, f2, m2⟩ := h
  exact ⟨vp2, h2, hf.trans f2 hm.size, hm.trans' m2 (Pt.fresh hf)⟩
theorem Led.no (h : Led w w1 b s vp p1) (hm : Mod No w1 w2) : Led w w2 b s vp p1 := by
  obtain ⟨vp1, h1, f1, m1⟩ := h
  exact ⟨vp1, h1.no hm, f1, m1.no hm⟩
theorem Led.from_alloc (o : Obj) (h : Led (w.alloc o) w1 b s vp p1) : Led w w1 b s vp p1 := by
  obtain ⟨vp1, h1, f1, m1⟩ := h
  refine ⟨vp1, h1, fun g hg => ?_, ((Mod.refl _ _).alloc o).trans m1⟩
  rcases f1 g hg with h | h
  · exact Or.inl h
  · exact Or.inr (by simp at h; omega)
/-- A block of the call's own (at L), behind the parser's steps from w0 on. -/
theorem keepL {w0 : World} {L : Nat} {cs : List Value} {T : Nat} (h0 : Blk w0 L cs T) (hb : L ≠ b) (hv : vp.ownBlock ≠ some L) (hm : Mod (Pt b vp) w0 w1) : Blk w1 L cs T :=
  h0.mod hm fun h => by
    rcases h with h | h
    · exact hb h
    · exact hv h
theorem Led.put {w0 : World} (h : Led w0 w1 b s vp p1) {a : Addr} (hb : b ≠ a.block) (hv : vp.ownBlock ≠ some a.block) (h0 : w.heap.size ≤ a.block) (hw0 : a.block < w0.heap.size) (hs : Mod No w w0) (v : Value) : Led w (w1.setCell a v) b s vp p1 := by
  obtain ⟨vp1, h1, f1, m1⟩ := h
  refine ⟨vp1, h1.other hb (f1.old hv hw0) v, fun g hg => ?_, ?_⟩
  · rcases f1 g hg with h | h
    · exact Or.inl h
    · exact Or.inr (Nat.le_trans hs.size h)
  · exact (((Mod.refl _ _).no hs).trans m1).setCell (fun h => by omega) v

theorem lsees (h : PSt w b s vp p) (c : UInt8) (hs : s.size ≤ 1048576) :
    Calls Tryz.prog 115 #[.pointer (some ⟨b, 0, none⟩), .int .u8 (c.toNat : Int)] w fun e w' => e = .returned (.bool (Mir.sees s.data.toList c p)) ∧ ∃ n, w' = w.drewN n := sees_any b _ _ s p.k p.bad c w hs h.rd
theorem sees_k {c : UInt8} (h : Mir.sees s.data.toList c p = true) : p.k + 1 ≤ s.size := by
  have := sees_lt (s := s) (c := c) (k := p.k) (bad := p.bad) h
  omega
theorem lskip (h : PSt w b s vp p) (c : UInt8) (hs : s.size ≤ 1048576) :
    Calls Tryz.prog 83 #[.pointer (some ⟨b, 0, none⟩), .int .u8 (c.toNat : Int)] w fun e w' => e = .returned (.bool (Mir.sees s.data.toList c p)) ∧ PSt w' b s vp (Mir.skipM s.data.toList c p) ∧ Mod (Pt b vp) w w' := by
  refine (skip_any b _ _ s p.k p.bad c w hs h.rd).mono ?_
  rintro e w' ⟨rfl, h1, h2⟩
  refine ⟨rfl, ?_, Mod.step h2⟩
  cases hc : Mir.sees s.data.toList c p with
  | true =>
    have e : seesB s c p.k p.bad = true := hc
    rw [if_pos e] at h1
    unfold Mir.skipM
    rw [if_pos hc]
    exact h.step h1 h2 (sees_k hc)
  | false =>
    have e : ¬ seesB s c p.k p.bad = true := by rw [show seesB s c p.k p.bad = false from hc]; simp
    rw [if_neg e] at h1
    unfold Mir.skipM
    rw [hc, if_neg (by simp)]
    exact h.step h1 h2 h.ks
theorem ltake (h : PSt w b s vp p) (c : UInt8) (hs : s.size ≤ 1048576) :
    Calls Tryz.prog 81 #[.pointer (some ⟨b, 0, none⟩), .int .u8 (c.toNat : Int)] w fun e w' => e = .returned (.tuple #[]) ∧ PSt w' b s vp (Mir.takeM s.data.toList c p) ∧ Mod (Pt b vp) w w' := by
  refine (sign_any b _ _ s p.k p.bad c w hs h.rd).mono ?_
  rintro e w' ⟨rfl, h1, h2⟩
  refine ⟨rfl, ?_, Mod.step h2⟩
  unfold signM at h1
  cases hc : Mir.sees s.data.toList c p with
  | true =>
    have e : seesB s c p.k p.bad = true := hc
    rw [if_pos e] at h1
    unfold Mir.takeM
    rw [if_pos hc]
    exact h.step h1 h2 (sees_k hc)
  | false =>
    have e : ¬ seesB s c p.k p.bad = true := by rw [show seesB s c p.k p.bad = false from hc]; simp
    rw [if_neg e] at h1
    unfold Mir.takeM
    rw [hc, if_neg (by simp)]
    exact h.step h1 h2 h.ks
theorem lfail (h : PSt w b s vp p) :
    Calls Tryz.prog 118 #[.pointer (some ⟨b, 0, none⟩)] w fun e w' => e = .returned (.tuple #[]) ∧ PSt w' b s vp (Mir.failM p) ∧ Mod (Pt b vp) w w' := by
  refine (fail_any b _ _ s p.k p.bad w h.rd).mono ?_
  rintro e w' ⟨rfl, h1, h2⟩
  exact ⟨rfl, h.step h1 h2 h.ks, Mod.step h2⟩
theorem lbad (h : PSt w b s vp p) : Calls Tryz.prog 72 #[.pointer (some ⟨b, 0, none⟩)] w fun e w' => e = .returned (.bool p.bad) ∧ w' = w := isBad_any b _ _ s p.k p.bad w h.rd
theorem lleft (h : PSt w b s vp p) (hs : s.size ≤ 1048576) : Calls Tryz.prog 70 #[.pointer (some ⟨b, 0, none⟩)] w fun e w' => e = .returned (.int .i64 ((s.size : Int) - (p.k : Int))) ∧ ∃ n, w' = w.drewN n := left_any b _ _ s p.k p.bad w hs h.ks h.rd
theorem lrun (h : PSt w b s vp p) (hs : s.size ≤ 1048576) :
    Calls Tryz.prog 80 #[.pointer (some ⟨b, 0, none⟩), .int .i64 0] w fun e w' => e = .returned (.string ⟨(Mir.runM Mir.isL s.data.toList p).1.toArray⟩) ∧ PSt w' b s vp (Mir.runM Mir.isL s.data.toList p).2 ∧ Mod (Pt b vp) w w' := by
  refine (run_low b _ _ s p.k p.bad w hs h.ks h.rd).mono ?_
  rintro e w' ⟨rfl, h1, h2⟩
  refine ⟨rfl, h.step h1 h2 ?_, Mod.step h2⟩
  have := run_le Mir.isL s.data.toList p.k (by rw [data_len]; exact h.ks)
  rwa [data_len] at this
theorem lsaid (h : PSt w b s vp p) (hs : s.size ≤ 1048576) :
    Calls Tryz.prog 80 #[.pointer (some ⟨b, 0, none⟩), .int .i64 1] w fun e w' => e = .returned (.string ⟨(Mir.runM Mir.isS s.data.toList p).1.toArray⟩) ∧ PSt w' b s vp (Mir.runM Mir.isS s.data.toList p).2 ∧ Mod (Pt b vp) w w' := by
  refine (run_said b _ _ s p.k p.bad w hs h.ks h.rd).mono ?_
  rintro e w' ⟨rfl, h1, h2⟩
  refine ⟨rfl, h.step h1 h2 ?_, Mod.step h2⟩
  have := run_le Mir.isS s.data.toList p.k (by rw [data_len]; exact h.ks)
  rwa [data_len] at this
theorem lletter (h : PSt w b s vp p) (hs : s.size ≤ 1048576) :
    Calls Tryz.prog 165 #[.pointer (some ⟨b, 0, none⟩)] w fun e w' => e = .returned (.string ⟨(Mir.letterM s.data.toList p).1.toArray⟩) ∧ PSt w' b s vp (Mir.letterM s.data.toList p).2 ∧ Mod (Pt b vp) w w' := by
  refine (letter_any b _ _ s p w hs h.rd).mono ?_
  rintro e w' ⟨rfl, h1, h2⟩
  refine ⟨rfl, ?_, Mod.step h2⟩
  have hps : (Mir.letterM s.data.toList p).2.ps = p.ps ∧ (Mir.letterM s.data.toList p).2.k ≤ s.size := by
    unfold Mir.letterM
    split
    · exact ⟨rfl, h.ks⟩
    · rename_i c hc
      split
      · refine ⟨rfl, ?_⟩
        have := (List.getElem?_eq_some_iff.1 hc).1
        rw [data_len] at this
        exact this
      · exact ⟨rfl, h.ks⟩
  have := h.step h1 h2 hps.2
  rw [← hps.1] at this
  exact this
theorem bit_ok {n : Nat} (h : n < 32) : POk ⟨false, Mir.bit n, Mir.bit n⟩ := ⟨bit_lt h, bit_lt h⟩
theorem ladd (h : PSt w b s vp p) (t : List Bool) {x : Mir.Piece} {ps : List Mir.Place} (ha : Mir.addM p.ps t = some (x, ps)) :
    Calls Tryz.prog 116 #[.pointer (some ⟨b, 3, none⟩), b4V t] w fun e w' => e = .returned (pieceV x) ∧ POk x ∧ Led w w' b s vp { p with ps := ps } := by
  unfold Mir.addM at ha
  split at ha
  · rename_i hlt
    cases ha
    refine (add_any b 3 _ _ vp p.ps t w h.blk rfl h.row h.ne hlt).mono ?_
    rintro e w' ⟨rfl, vp', h1, h2, h3, h4, h5⟩
    refine ⟨rfl, bit_ok hlt, vp', ⟨h2, h1, h3, ⟨by simp; omega, fun q hq => ?_⟩, h.ks⟩, h4, h5⟩
    rcases List.mem_append.1 hq with h6 | h6
    · exact h.ok.2 q h6
    · rw [List.mem_singleton.1 h6]; show 0 < B32; decide
  · cases ha
theorem join_ok {ps : List Mir.Place} {x y : Mir.Piece} (hx : POk x) (hy : POk y) : POk (Mir.joinM ps x y).1 := by
  refine ⟨?_, ?_⟩
  · show (if x.e = true then x.f ||| y.f else x.f) < B32
    split
    · exact or_lt32 hx.1 hy.1
    · exact hx.1
  · show (if y.e = true then y.l ||| x.l else y.l) < B32
    split
    · exact or_lt32 hy.2 hx.2
    · exact hy.2
theorem ljoin (h : PSt w b s vp p) {x y : Mir.Piece} (hx : POk x) (hy : POk y) :
    Calls Tryz.prog 85 #[.pointer (some ⟨b, 3, none⟩), pieceV x, pieceV y] w fun e w' => e = .returned (pieceV (Mir.joinM p.ps x y).1) ∧ PSt w' b s vp { p with ps := (Mir.joinM p.ps x y).2 } ∧ Mod (Pt b vp) w w' := by
  refine (join_any b 3 _ _ vp p.ps x y w h.blk rfl h.row h.ne h.ok hx hy).mono ?_
  rintro e w' ⟨rfl, h1, h2⟩
  exact ⟨rfl, ⟨h.blk.mod h2 h.ne, h1, h.ne, lead_ok h.ok hy.1, h.ks⟩, h2.more fun k _ e => Or.inr e⟩
theorem lrep (h : PSt w b s vp p) {x : Mir.Piece} (hx : POk x) :
    Calls Tryz.prog 158 #[.pointer (some ⟨b, 3, none⟩), pieceV x] w fun e w' => e = .returned (pieceV (Mir.repM p.ps x).1) ∧ PSt w' b s vp { p with ps := (Mir.repM p.ps x).2 } ∧ Mod (Pt b vp) w w' := by
  refine (repeat_any b 3 _ _ vp p.ps x w h.blk rfl h.row h.ne h.ok hx).mono ?_
  rintro e w' ⟨rfl, h1, h2⟩
  exact ⟨rfl, ⟨h.blk.mod h2 h.ne, h1, h.ne, lead_ok h.ok hx.1, h.ks⟩, h2.more fun k _ e => Or.inr e⟩
end
end Go.Proofs.YtmbapmbpnnaanabGreatDoor
