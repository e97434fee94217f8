import Derived.Test.YtmbapmbpnnaanabGreatDoorNH
namespace Go.Proofs.YtmbapmbpnnaanabGreatDoor
open Go.RowKit
attribute [local go_sem ↓] Go.wp_at_zero Go.wp_at_succ

/-- A way in three strings. -/
abbrev wayOf (T O E : ByteArray) : M2.Way := ⟨T.data.toList, O.data.toList, E.data.toList⟩

set_option maxHeartbeats 1600000 in
set_option maxRecDepth 100000 in
theorem outgrow_any (w : World) (T O E T' O' E' : ByteArray) (hT : T.size ≤ 10000000) (hO : O.size ≤ 10000000) (hE : E.size ≤ 10000000) (hT' : T'.size ≤ 10000000) (hO' : O'.size ≤ 10000000) (hE' : E'.size ≤ 10000000) {c : Nat} {b : Bool} (hM : M2.outgrow (wayOf T O E) (wayOf T' O' E') = some (c, b)) :
    Calls Tryz.prog 149 #[.agg #[.string T, .string O, .string E], .agg #[.string T', .string O', .string E']] w fun e w' => e = .returned (.tuple #[.int .i64 (c : Int), .bool b]) ∧ Mod No w w' := by
  unfold M2.outgrow at hM
  simp only [data_len] at hM
  obtain ⟨be, hbe⟩ : ∃ be : Int, be = (T'.size : Int) + (E'.size : Int) - (T.size : Int) - (E.size : Int) := ⟨_, rfl⟩
  obtain ⟨ga, hga⟩ : ∃ ga : Int, ga = (O.size : Int) - (O'.size : Int) := ⟨_, rfl⟩
  rw [← hbe, ← hga] at hM
  have w1 : IntKind.i64.wrap ((T'.size : Int) + (E'.size : Int)) = (T'.size : Int) + (E'.size : Int) := by rw [IntKind.wrap_i64]; omega
  have w2 : IntKind.i64.wrap ((T'.size : Int) + (E'.size : Int) - (T.size : Int)) = (T'.size : Int) + (E'.size : Int) - (T.size : Int) := by rw [IntKind.wrap_i64]; omega
  have w3 : IntKind.i64.wrap ((T'.size : Int) + (E'.size : Int) - (T.size : Int) - (E.size : Int)) = be := by rw [IntKind.wrap_i64]; omega
  have w4 : IntKind.i64.wrap ((O.size : Int) - (O'.size : Int)) = ga := by rw [IntKind.wrap_i64]; omega
  have hbb : -100000000 ≤ be ∧ be ≤ 100000000 := by omega
  have hgb : -100000000 ≤ ga ∧ ga ≤ 100000000 := by omega
  have hb1 := hbb.1
  have hb2 := hbb.2
  have hg1 := hgb.1
  have hg2 := hgb.2
  clear hbe hga hbb hgb
  by_cases hb : be ≤ 0
  · rw [if_pos (Or.inl hb)] at hM
    obtain ⟨rfl, rfl⟩ : 0 = c ∧ decide (0 < ga) = b := by simpa using hM
    clear hM
    go_enter Tryz.func149, Tryz.ntmps149
    go_wp2
    go_ret2
    exact ⟨rfl, ((Mod.refl _ _).alloc _).alloc _⟩
  · by_cases hg : ga ≤ 0
    · rw [if_pos (Or.inr hg)] at hM
      obtain ⟨rfl, rfl⟩ : 0 = c ∧ decide (0 < ga) = b := by simpa using hM
      clear hM
      go_enter Tryz.func149, Tryz.ntmps149
      go_wp2
      go_ret2
      exact ⟨rfl, ((Mod.refl _ _).alloc _).alloc _⟩
    · rw [if_neg (by omega)] at hM
      obtain ⟨hc, rfl⟩ : ((be + ga - 1) / ga).toNat = c ∧ true = b := by simpa using hM
      have w5 : IntKind.i64.wrap (be + ga) = be + ga := by rw [IntKind.wrap_i64]; omega
      have w6 : IntKind.i64.wrap (be + ga - 1) = be + ga - 1 := by rw [IntKind.wrap_i64]; omega
      have hdiv : (be + ga - 1).tdiv ga = (c : Int) := by
        rw [← hc, Int.tdiv_eq_ediv_of_nonneg (by omega)]
        have := Int.ediv_nonneg (a := be + ga - 1) (b := ga) (by omega) (by omega)
        omega
      have hgne : (ga == 0) = false := by rw [beq_eq_false_iff_ne]; omega
      have hgne2 : ¬ ga = 0 := by omega
      have hcb : c ≤ 300000000 := by
        have h1 := Int.ediv_le_self (a := be + ga - 1) ga (by omega)
        omega
      clear hM hc
      go_enter Tryz.func149, Tryz.ntmps149
      go_wp2
      go_ret2
      exact ⟨rfl, ((Mod.refl _ _).alloc _).alloc _⟩

theorem partGo_step (one other : M2.Way) (least size n i : Nat) : M2.partGo one other least size (n + 1) i = if M2.wat one i = M2.wat other i then M2.partGo one other least size n (i + 1) else if i < least then (0, true) else ((i - least) / size + 1, true) := rfl

set_option maxHeartbeats 1600000 in
set_option maxRecDepth 100000 in
theorem part'_any (w : World) (T O E T' O' E' : ByteArray) (hT : T.size ≤ 10000000) (hO : O.size ≤ 10000000) (hT' : T'.size ≤ 10000000) (hO' : O'.size ≤ 10000000) {c : Nat} {b : Bool} (hM : (if O.size = 0 then (0, false) else M2.partGo (wayOf T O E) (wayOf T' O' E') (min T.size T'.size) O.size (max T.size T'.size + O.size) 0) = (c, b)) :
    Calls Tryz.prog 148 #[.agg #[.string T, .string O, .string E], .agg #[.string T', .string O', .string E']] w fun e w' => e = .returned (.tuple #[.int .i64 (c : Int), .bool b]) ∧ Mod No w w' := by
  by_cases h0 : O.size = 0
  · rw [if_pos h0] at hM
    obtain ⟨rfl, rfl⟩ : 0 = c ∧ false = b := by simpa using hM
    have h0i : (O.size : Int) = 0 := by omega
    clear hM
    go_enter Tryz.func148, Tryz.ntmps148
    go_wp2
    go_ret2
    exact ⟨rfl, ((Mod.refl _ _).alloc _).alloc _⟩
  · rw [if_neg h0] at hM
    obtain ⟨le, hle⟩ : ∃ m, m = min T.size T'.size := ⟨_, rfl⟩
    obtain ⟨mo, hmo⟩ : ∃ m, m = max T.size T'.size := ⟨_, rfl⟩
    rw [← hle, ← hmo] at hM
    have HM : Hid (M2.partGo (wayOf T O E) (wayOf T' O' E') le O.size (mo + O.size) 0 = (c, b)) := hM
    have hle7 : le ≤ 10000000 := by omega
    have hmo7 : mo ≤ 10000000 := by omega
    have h0i : ((O.size : Int) == 0) = false := by rw [beq_eq_false_iff_ne]; omega
    have h0j : ¬ (O.size : Int) = 0 := by omega
    go_enter Tryz.func148, Tryz.ntmps148
    by_cases hlt : T'.size < T.size
    · obtain rfl : le = T'.size := by omega
      obtain rfl : mo = T.size := by omega
      have HIN : Hid (T'.size < T.size) := hlt
      have hlti : (T'.size : Int) < (T.size : Int) := by omega
      clear hle hmo hM
      go_wp2_with fail
      have HW1 : Hid (Mod No w ((w.alloc (Obj.cells #[.string T, .string O, .string E] 258)).alloc (Obj.cells #[.string T', .string O', .string E'] 258)) ∧ Blk ((w.alloc (Obj.cells #[.string T, .string O, .string E] 258)).alloc (Obj.cells #[.string T', .string O', .string E'] 258)) w.heap.size [.string T, .string O, .string E] 258 ∧ Blk ((w.alloc (Obj.cells #[.string T, .string O, .string E] 258)).alloc (Obj.cells #[.string T', .string O', .string E'] 258)) (w.heap.size + 1) [.string T', .string O', .string E'] 258) := ⟨((Mod.refl _ _).alloc _).alloc _, new2_0 w _ _, new2_1 w _ _⟩
      generalize (w.alloc (Obj.cells #[.string T, .string O, .string E] 258)).alloc (Obj.cells #[.string T', .string O', .string E'] 258) = W1 at HW1 ⊢
      go_loopg [9] (T.size + O.size) (fun gh v9 wr => ∃ i : Nat, i ≤ T.size + O.size ∧ gh = T.size + O.size - i ∧ v9 = .int .i64 (i : Int) ∧ M2.partGo (wayOf T O E) (wayOf T' O' E') T'.size O.size gh i = (c, b) ∧ Mod No w wr ∧ Blk wr w.heap.size [.string T, .string O, .string E] 258 ∧ Blk wr (w.heap.size + 1) [.string T', .string O', .string E'] 258)
      case atStart => exact ⟨0, by omega, by omega, rfl, HM.out, HW1.out⟩
      case round =>
        clear HM HW1
        obtain ⟨i, hin, hgk, rfl, hgo, hI⟩ := hrel
        have HI : Hid (Mod No w wr ∧ Blk wr w.heap.size [.string T, .string O, .string E] 258 ∧ Blk wr (w.heap.size + 1) [.string T', .string O', .string E'] 258) := hI
        by_cases hi : i < T.size + O.size
        · obtain ⟨g, hg⟩ : ∃ g, gk = g + 1 := ⟨T.size + O.size - (i + 1), by omega⟩
          rw [hg, partGo_step] at hgo
          have hat1 := at_any wr T O E i hT hO (by omega)
          have H2 : Hid (∀ wx, Calls Tryz.prog 159 #[.agg #[.string T', .string O', .string E'], .int .i64 (i : Int)] wx fun e w' => e = .returned (.int .u8 (M2.wat (wayOf T' O' E') i : Int)) ∧ Mod No wx w') := fun wx => at_any wx T' O' E' i hT' hO' (by omega)
          generalize M2.wat (wayOf T O E) i = X1 at hat1 hgo
          generalize M2.wat (wayOf T' O' E') i = X2 at H2 hgo
          have a0 := hI.2.1.cell 0 rfl
          have a1 := hI.2.1.cell 1 rfl
          have a2 := hI.2.1.cell 2 rfl
          have hii : (i : Int) < (T.size : Int) + (O.size : Int) := by omega
          have HG : Hid (g = T.size + O.size - (i + 1)) := by show g = T.size + O.size - (i + 1); omega
          clear hI hg
          go_wp2_with fail
          refine hat1.mono ?_
          rintro e w2 ⟨rfl, m2⟩
          have hI2 := And.intro (HI.out.1.no m2) (And.intro (HI.out.2.1.mod m2 (fun x => x)) (HI.out.2.2.mod m2 (fun x => x)))
          have HI2 : Hid (Mod No w w2 ∧ Blk w2 w.heap.size [.string T, .string O, .string E] 258 ∧ Blk w2 (w.heap.size + 1) [.string T', .string O', .string E'] 258) := hI2
          clear hat1 m2 a0 a1 a2 HI
          have a0 := hI2.2.2.cell 0 rfl
          have a1 := hI2.2.2.cell 1 rfl
          have a2 := hI2.2.2.cell 2 rfl
          clear hI2
          have hat2 := H2.out w2
          go_wp2_with fail
          refine hat2.mono ?_
          rintro e w3 ⟨rfl, m3⟩
          have HI3 : Hid (Mod No w w3 ∧ Blk w3 w.heap.size [.string T, .string O, .string E] 258 ∧ Blk w3 (w.heap.size + 1) [.string T', .string O', .string E'] 258) := And.intro (HI2.out.1.no m3) (And.intro (HI2.out.2.1.mod m3 (fun x => x)) (HI2.out.2.2.mod m3 (fun x => x)))
          clear hat2 m3 a0 a1 a2 HI2 H2
          by_cases hx : X1 = X2
          · rw [if_pos hx] at hgo
            have HGO : Hid (M2.partGo (wayOf T O E) (wayOf T' O' E') T'.size O.size g (i + 1) = (c, b)) := hgo
            subst hx
            clear hgo
            go_wp2
            go_roundg (T.size + O.size - (i + 1))
            case measure => omega
            case rel => exact ⟨i + 1, by omega, rfl, by go_num, by rw [← HG.out]; exact HGO.out, HI3.out⟩
          · rw [if_neg hx] at hgo
            have hxx : ((X2 : Int) == (X1 : Int)) = false := by rw [beq_eq_false_iff_ne]; omega
            by_cases hil : i < T'.size
            · rw [if_pos hil] at hgo
              obtain ⟨rfl, rfl⟩ : 0 = c ∧ true = b := by simpa using hgo
              have hili : (i : Int) < (T'.size : Int) := by omega
              clear hgo
              go_wp2
              go_ret2
              exact ⟨rfl, HI3.out.1⟩
            · rw [if_neg hil] at hgo
              obtain ⟨hc, rfl⟩ : (i - T'.size) / O.size + 1 = c ∧ true = b := by simpa using hgo
              have hili : ¬ (i : Int) < (T'.size : Int) := by omega
              obtain ⟨q, hq⟩ : ∃ q, q = (i - T'.size) / O.size := ⟨_, rfl⟩
              have hqb : q ≤ i - T'.size := by rw [hq]; exact Nat.div_le_self _ _
              have hw1 : IntKind.i64.wrap ((i : Int) - (T'.size : Int)) = ((i - T'.size : Nat) : Int) := by rw [IntKind.wrap_i64]; omega
              have hw2 : (((i - T'.size : Nat) : Int)).tdiv (O.size : Int) = (q : Int) := by rw [hq]; rfl
              rw [← hq] at hc
              have hq9 : q ≤ 100000000 := by omega
              clear hqb
              generalize i - T'.size = dd at hw1 hw2
              have HC : Hid (q + 1 = c) := hc
              clear hgo hq hc
              go_wp2
              go_ret2
              exact ⟨by rw [← HC.out]; rfl, HI3.out.1⟩
        · have hi2 : i = T.size + O.size := by omega
          rw [hgk, hi2, Nat.sub_self] at hgo
          obtain ⟨rfl, rfl⟩ : 0 = c ∧ false = b := by simpa [M2.partGo] using hgo
          have hii : ¬ (i : Int) < (T.size : Int) + (O.size : Int) := by omega
          clear hI hgo hgk hi2
          go_wp2
          go_ret2
          exact ⟨rfl, HI.out.1⟩
    · obtain rfl : le = T.size := by omega
      obtain rfl : mo = T'.size := by omega
      have HIN : Hid (¬ T'.size < T.size) := hlt
      have hlti : ¬ (T'.size : Int) < (T.size : Int) := by omega
      clear hle hmo hM
      go_wp2_with fail
      have HW1 : Hid (Mod No w ((w.alloc (Obj.cells #[.string T, .string O, .string E] 258)).alloc (Obj.cells #[.string T', .string O', .string E'] 258)) ∧ Blk ((w.alloc (Obj.cells #[.string T, .string O, .string E] 258)).alloc (Obj.cells #[.string T', .string O', .string E'] 258)) w.heap.size [.string T, .string O, .string E] 258 ∧ Blk ((w.alloc (Obj.cells #[.string T, .string O, .string E] 258)).alloc (Obj.cells #[.string T', .string O', .string E'] 258)) (w.heap.size + 1) [.string T', .string O', .string E'] 258) := ⟨((Mod.refl _ _).alloc _).alloc _, new2_0 w _ _, new2_1 w _ _⟩
      generalize (w.alloc (Obj.cells #[.string T, .string O, .string E] 258)).alloc (Obj.cells #[.string T', .string O', .string E'] 258) = W1 at HW1 ⊢
      go_loopg [9] (T'.size + O.size) (fun gh v9 wr => ∃ i : Nat, i ≤ T'.size + O.size ∧ gh = T'.size + O.size - i ∧ v9 = .int .i64 (i : Int) ∧ M2.partGo (wayOf T O E) (wayOf T' O' E') T.size O.size gh i = (c, b) ∧ Mod No w wr ∧ Blk wr w.heap.size [.string T, .string O, .string E] 258 ∧ Blk wr (w.heap.size + 1) [.string T', .string O', .string E'] 258)
      case atStart => exact ⟨0, by omega, by omega, rfl, HM.out, HW1.out⟩
      case round =>
        clear HM HW1
        obtain ⟨i, hin, hgk, rfl, hgo, hI⟩ := hrel
        have HI : Hid (Mod No w wr ∧ Blk wr w.heap.size [.string T, .string O, .string E] 258 ∧ Blk wr (w.heap.size + 1) [.string T', .string O', .string E'] 258) := hI
        by_cases hi : i < T'.size + O.size
        · obtain ⟨g, hg⟩ : ∃ g, gk = g + 1 := ⟨T'.size + O.size - (i + 1), by omega⟩
          rw [hg, partGo_step] at hgo
          have hat1 := at_any wr T O E i hT hO (by omega)
          have H2 : Hid (∀ wx, Calls Tryz.prog 159 #[.agg #[.string T', .string O', .string E'], .int .i64 (i : Int)] wx fun e w' => e = .returned (.int .u8 (M2.wat (wayOf T' O' E') i : Int)) ∧ Mod No wx w') := fun wx => at_any wx T' O' E' i hT' hO' (by omega)
          generalize M2.wat (wayOf T O E) i = X1 at hat1 hgo
          generalize M2.wat (wayOf T' O' E') i = X2 at H2 hgo
          have a0 := hI.2.1.cell 0 rfl
          have a1 := hI.2.1.cell 1 rfl
          have a2 := hI.2.1.cell 2 rfl
          have hii : (i : Int) < (T'.size : Int) + (O.size : Int) := by omega
          have HG : Hid (g = T'.size + O.size - (i + 1)) := by show g = T'.size + O.size - (i + 1); omega
          clear hI hg
          go_wp2_with fail
          refine hat1.mono ?_
          rintro e w2 ⟨rfl, m2⟩
          have hI2 := And.intro (HI.out.1.no m2) (And.intro (HI.out.2.1.mod m2 (fun x => x)) (HI.out.2.2.mod m2 (fun x => x)))
          have HI2 : Hid (Mod No w w2 ∧ Blk w2 w.heap.size [.string T, .string O, .string E] 258 ∧ Blk w2 (w.heap.size + 1) [.string T', .string O', .string E'] 258) := hI2
          clear hat1 m2 a0 a1 a2 HI
          have a0 := hI2.2.2.cell 0 rfl
          have a1 := hI2.2.2.cell 1 rfl
          have a2 := hI2.2.2.cell 2 rfl
          clear hI2
          have hat2 := H2.out w2
          go_wp2_with fail
          refine hat2.mono ?_
          rintro e w3 ⟨rfl, m3⟩
          have HI3 : Hid (Mod No w w3 ∧ Blk w3 w.heap.size [.string T, .string O, .string E] 258 ∧ Blk w3 (w.heap.size + 1) [.string T', .string O', .string E'] 258) := And.intro (HI2.out.1.no m3) (And.intro (HI2.out.2.1.mod m3 (fun x => x)) (HI2.out.2.2.mod m3 (fun x => x)))
          clear hat2 m3 a0 a1 a2 HI2 H2
          by_cases hx : X1 = X2
          · rw [if_pos hx] at hgo
            have HGO : Hid (M2.partGo (wayOf T O E) (wayOf T' O' E') T.size O.size g (i + 1) = (c, b)) := hgo
            subst hx
            clear hgo
            go_wp2
            go_roundg (T'.size + O.size - (i + 1))
            case measure => omega
            case rel => exact ⟨i + 1, by omega, rfl, by go_num, by rw [← HG.out]; exact HGO.out, HI3.out⟩
          · rw [if_neg hx] at hgo
            have hxx : ((X2 : Int) == (X1 : Int)) = false := by rw [beq_eq_false_iff_ne]; omega
            by_cases hil : i < T.size
            · rw [if_pos hil] at hgo
              obtain ⟨rfl, rfl⟩ : 0 = c ∧ true = b := by simpa using hgo
              have hili : (i : Int) < (T.size : Int) := by omega
              clear hgo
              go_wp2
              go_ret2
              exact ⟨rfl, HI3.out.1⟩
            · rw [if_neg hil] at hgo
              obtain ⟨hc, rfl⟩ : (i - T.size) / O.size + 1 = c ∧ true = b := by simpa using hgo
              have hili : ¬ (i : Int) < (T.size : Int) := by omega
              obtain ⟨q, hq⟩ : ∃ q, q = (i - T.size) / O.size := ⟨_, rfl⟩
              have hqb : q ≤ i - T.size := by rw [hq]; exact Nat.div_le_self _ _
              have hw1 : IntKind.i64.wrap ((i : Int) - (T.size : Int)) = ((i - T.size : Nat) : Int) := by rw [IntKind.wrap_i64]; omega
              have hw2 : (((i - T.size : Nat) : Int)).tdiv (O.size : Int) = (q : Int) := by rw [hq]; rfl
              rw [← hq] at hc
              have hq9 : q ≤ 100000000 := by omega
              clear hqb
              generalize i - T.size = dd at hw1 hw2
              have HC : Hid (q + 1 = c) := hc
              clear hgo hq hc
              go_wp2
              go_ret2
              exact ⟨by rw [← HC.out]; rfl, HI3.out.1⟩
        · have hi2 : i = T'.size + O.size := by omega
          rw [hgk, hi2, Nat.sub_self] at hgo
          obtain ⟨rfl, rfl⟩ : 0 = c ∧ false = b := by simpa [M2.partGo] using hgo
          have hii : ¬ (i : Int) < (T'.size : Int) + (O.size : Int) := by omega
          clear hI hgo hgk hi2
          go_wp2
          go_ret2
          exact ⟨rfl, HI.out.1⟩
end Go.Proofs.YtmbapmbpnnaanabGreatDoor
namespace Go.Proofs.YtmbapmbpnnaanabGreatDoor
open Go.RowKit
attribute [local go_sem ↓] Go.wp_at_zero Go.wp_at_succ

theorem ahead_spec {T O E T' O' E' : ByteArray} {c : Nat} {b : Bool} (h : M2.ahead' (wayOf T O E) (wayOf T' O' E') = some (c, b)) : (O.size = O'.size ∧ (if O.size = 0 then (0, false) else M2.partGo (wayOf T O E) (wayOf T' O' E') (min T.size T'.size) O.size (max T.size T'.size + O.size) 0) = (c, b)) ∨ (¬ O.size = O'.size ∧ O.size < O'.size ∧ M2.outgrow (wayOf T' O' E') (wayOf T O E) = some (c, b)) ∨ (¬ O.size = O'.size ∧ ¬ O.size < O'.size ∧ M2.outgrow (wayOf T O E) (wayOf T' O' E') = some (c, b)) := by
  unfold M2.ahead' at h
  simp only [data_len] at h
  split at h
  · rename_i he
    refine Or.inl ⟨he, ?_⟩
    split at h
    · rename_i h0
      rw [if_pos h0]; exact Option.some.inj h
    · rename_i h0
      rw [if_neg h0]; exact Option.some.inj h
  · rename_i he
    split at h
    · rename_i hl
      exact Or.inr (Or.inl ⟨he, hl, h⟩)
    · rename_i hl
      exact Or.inr (Or.inr ⟨he, hl, h⟩)

set_option maxHeartbeats 1600000 in
set_option maxRecDepth 100000 in
theorem ahead'_any (w : World) (T O E T' O' E' : ByteArray) (hT : T.size ≤ 10000000) (hO : O.size ≤ 10000000) (hE : E.size ≤ 10000000) (hT' : T'.size ≤ 10000000) (hO' : O'.size ≤ 10000000) (hE' : E'.size ≤ 10000000) {c : Nat} {b : Bool} (hM : M2.ahead' (wayOf T O E) (wayOf T' O' E') = some (c, b)) :
    Calls Tryz.prog 133 #[.agg #[.string T, .string O, .string E], .agg #[.string T', .string O', .string E']] w fun e w' => e = .returned (.tuple #[.int .i64 (c : Int), .bool b]) ∧ Mod No w w' := by
  have HMD : Hid (Mod No w ((w.alloc (Obj.cells #[.string T, .string O, .string E] 258)).alloc (Obj.cells #[.string T', .string O', .string E'] 258))) := ((Mod.refl _ _).alloc _).alloc _
  rcases ahead_spec hM with ⟨h1, h2⟩ | ⟨h1, h2, h3⟩ | ⟨h1, h2, h3⟩
  · have H97 : Hid (∀ wx, Calls Tryz.prog 148 #[.agg #[.string T, .string O, .string E], .agg #[.string T', .string O', .string E']] wx fun e w' => e = .returned (.tuple #[.int .i64 (c : Int), .bool b]) ∧ Mod No wx w') := fun wx => part'_any wx T O E T' O' E' hT hO hT' hO' h2
    have h1i : (O.size : Int) = (O'.size : Int) := by omega
    have h1b : ((O.size : Int) == (O'.size : Int)) = true := by rw [h1i]; simp
    clear hM h2 h1 h1i
    go_enter Tryz.func133, Tryz.ntmps133
    go_wp2_with fail
    refine (H97.out _).mono ?_
    rintro e w2 ⟨rfl, m2⟩
    go_wp2
    go_ret2
    exact ⟨rfl, HMD.out.no m2⟩
  · have H98 : Hid (∀ wx, Calls Tryz.prog 149 #[.agg #[.string T', .string O', .string E'], .agg #[.string T, .string O, .string E]] wx fun e w' => e = .returned (.tuple #[.int .i64 (c : Int), .bool b]) ∧ Mod No wx w') := fun wx => outgrow_any wx T' O' E' T O E hT' hO' hE' hT hO hE h3
    have h1b : ((O.size : Int) == (O'.size : Int)) = false := by rw [beq_eq_false_iff_ne]; omega
    have h2i : (O.size : Int) < (O'.size : Int) := by omega
    clear hM h3 h1 h2
    go_enter Tryz.func133, Tryz.ntmps133
    go_wp2_with fail
    refine (H98.out _).mono ?_
    rintro e w2 ⟨rfl, m2⟩
    go_wp2
    go_ret2
    exact ⟨rfl, HMD.out.no m2⟩
  · have H98 : Hid (∀ wx, Calls Tryz.prog 149 #[.agg #[.string T, .string O, .string E], .agg #[.string T', .string O', .string E']] wx fun e w' => e = .returned (.tuple #[.int .i64 (c : Int), .bool b]) ∧ Mod No wx w') := fun wx => outgrow_any wx T O E T' O' E' hT hO hE hT' hO' hE' h3
    have h1b : ((O.size : Int) == (O'.size : Int)) = false := by rw [beq_eq_false_iff_ne]; omega
    have h2i : ¬ (O.size : Int) < (O'.size : Int) := by omega
    clear hM h3 h1 h2
    go_enter Tryz.func133, Tryz.ntmps133
    go_wp2_with fail
    refine (H98.out _).mono ?_
    rintro e w2 ⟨rfl, m2⟩
    go_wp2
    go_ret2
    exact ⟨rfl, HMD.out.no m2⟩
end Go.Proofs.YtmbapmbpnnaanabGreatDoor
namespace Go.Proofs.YtmbapmbpnnaanabGreatDoor.M3
open Go.Proofs.YtmbapmbpnnaanabGreatDoor.M2
def settle : Nat → Wit → Option Wit
  | 0, _ => none
  | n + 1, w => if 400 < w.c then (if w.x.length ≤ 1000000 ∧ w.y.length ≤ 1000000 ∧ w.c ≤ 1000000 then settle n { w with x := w.x ++ w.y, c := w.c - 1 } else none) else some w
end Go.Proofs.YtmbapmbpnnaanabGreatDoor.M3
namespace Go.Proofs.YtmbapmbpnnaanabGreatDoor
open Go.RowKit
attribute [local go_sem ↓] Go.wp_at_zero Go.wp_at_succ

theorem settle_step {n : Nat} {x r : M2.Wit} (h : M3.settle (n + 1) x = some r) : (400 < x.c ∧ x.x.length ≤ 1000000 ∧ x.y.length ≤ 1000000 ∧ x.c ≤ 1000000 ∧ M3.settle n { x with x := x.x ++ x.y, c := x.c - 1 } = some r) ∨ (¬ 400 < x.c ∧ x = r) := by
  rw [M3.settle] at h
  split at h
  · rename_i hc
    split at h
    · rename_i hb
      exact Or.inl ⟨hc, hb.1, hb.2.1, hb.2.2, h⟩
    · cases h
  · rename_i hc
    exact Or.inr ⟨hc, Option.some.inj h⟩
/-- A witness's cells. -/
def wiC (x : M2.Wit) : List Value := [.string ⟨x.x.toArray⟩, .string ⟨x.y.toArray⟩, .string ⟨x.z1.toArray⟩, .string ⟨x.z2.toArray⟩, .int .i64 (x.c : Int)]
def wit0 : M2.Wit := ⟨[], [], [], [], 0⟩

set_option maxHeartbeats 1600000 in
set_option maxRecDepth 100000 in
theorem settle_any (w : World) (x : M2.Wit) {r : M2.Wit} (hM : M3.settle 10000 x = some r) :
    Calls Tryz.prog 134 #[.agg (wiC x).toArray] w fun e w' => e = .returned (.agg (wiC r).toArray) ∧ Mod No w w' := by
  have HM : Hid (M3.settle 10000 x = some r) := hM
  clear hM
  obtain ⟨x1, x2, x3, x4, xc⟩ := x
  unfold wiC
  simp only
  obtain ⟨X1, hX1⟩ : ∃ X, X = (⟨x1.toArray⟩ : ByteArray) := ⟨_, rfl⟩
  obtain ⟨X2, hX2⟩ : ∃ X, X = (⟨x2.toArray⟩ : ByteArray) := ⟨_, rfl⟩
  obtain ⟨X3, hX3⟩ : ∃ X, X = (⟨x3.toArray⟩ : ByteArray) := ⟨_, rfl⟩
  obtain ⟨X4, hX4⟩ : ∃ X, X = (⟨x4.toArray⟩ : ByteArray) := ⟨_, rfl⟩
  rw [← hX1, ← hX2, ← hX3, ← hX4]
  have HX1 : Hid (X1 = (⟨x1.toArray⟩ : ByteArray)) := hX1
  have HX : Hid (X2 = (⟨x2.toArray⟩ : ByteArray) ∧ X3 = (⟨x3.toArray⟩ : ByteArray) ∧ X4 = (⟨x4.toArray⟩ : ByteArray)) := ⟨hX2, hX3, hX4⟩
  clear hX1 hX2 hX3 hX4
  go_enter Tryz.func134, Tryz.ntmps134
  go_wp2_with fail
  have HW1 : Hid (Mod No w ((w.alloc (Obj.cells #[.string X1, .string X2, .string X3, .string X4, .int .i64 (xc : Int)] 40)).alloc (Obj.cells #[.string ⟨#[]⟩, .string ⟨#[]⟩, .string ⟨#[]⟩, .string ⟨#[]⟩, .int .i64 0] 40)) ∧ Blk ((w.alloc (Obj.cells #[.string X1, .string X2, .string X3, .string X4, .int .i64 (xc : Int)] 40)).alloc (Obj.cells #[.string ⟨#[]⟩, .string ⟨#[]⟩, .string ⟨#[]⟩, .string ⟨#[]⟩, .int .i64 0] 40)) w.heap.size [.string X1, .string X2, .string X3, .string X4, .int .i64 (xc : Int)] 40 ∧ Blk ((w.alloc (Obj.cells #[.string X1, .string X2, .string X3, .string X4, .int .i64 (xc : Int)] 40)).alloc (Obj.cells #[.string ⟨#[]⟩, .string ⟨#[]⟩, .string ⟨#[]⟩, .string ⟨#[]⟩, .int .i64 0] 40)) (w.heap.size + 1) [.string ⟨#[]⟩, .string ⟨#[]⟩, .string ⟨#[]⟩, .string ⟨#[]⟩, .int .i64 0] 40) := ⟨((Mod.refl _ _).alloc _).alloc _, new2_0 w _ _, new2_1 w _ _⟩
  generalize (w.alloc (Obj.cells #[.string X1, .string X2, .string X3, .string X4, .int .i64 (xc : Int)] 40)).alloc (Obj.cells #[.string ⟨#[]⟩, .string ⟨#[]⟩, .string ⟨#[]⟩, .string ⟨#[]⟩, .int .i64 0] 40) = W1 at HW1 ⊢
  go_loopg [] 10000 (fun gh wr => ∃ (y1 : List UInt8) (yc : Nat), M3.settle gh ⟨y1, x2, x3, x4, yc⟩ = some r ∧ Mod No w wr ∧ Blk wr w.heap.size [.string ⟨y1.toArray⟩, .string X2, .string X3, .string X4, .int .i64 (yc : Int)] 40 ∧ Blk wr (w.heap.size + 1) [.string ⟨#[]⟩, .string ⟨#[]⟩, .string ⟨#[]⟩, .string ⟨#[]⟩, .int .i64 0] 40)
  case atStart => exact ⟨x1, xc, HM.out, HW1.out.1, by rw [← HX1.out]; exact HW1.out.2.1, HW1.out.2.2⟩
  case round =>
    clear HM HW1 HX1
    obtain ⟨y1, yc, hgo, hI⟩ := hrel
    obtain ⟨Y1, hY1⟩ : ∃ X, X = (⟨y1.toArray⟩ : ByteArray) := ⟨_, rfl⟩
    rw [← hY1] at hI
    have HY1 : Hid (Y1 = (⟨y1.toArray⟩ : ByteArray)) := hY1
    have HI : Hid (Mod No w wr ∧ Blk wr w.heap.size [.string Y1, .string X2, .string X3, .string X4, .int .i64 (yc : Int)] 40 ∧ Blk wr (w.heap.size + 1) [.string ⟨#[]⟩, .string ⟨#[]⟩, .string ⟨#[]⟩, .string ⟨#[]⟩, .int .i64 0] 40) := hI
    match gk, hgo with
    | 0, hgo => cases hgo
    | f + 1, hgo =>
      have a0 := hI.2.1.cell 0 rfl
      have a1 := hI.2.1.cell 1 rfl
      have a2 := hI.2.1.cell 2 rfl
      have a3 := hI.2.1.cell 3 rfl
      have a4 := hI.2.1.cell 4 rfl
      rcases settle_step hgo with ⟨hc, hl1, hl2, hl3, hnx⟩ | ⟨hc, hr⟩
      · simp only at hc hl1 hl2 hl3 hnx
        have HNX : Hid (M3.settle f ⟨y1 ++ x2, x2, x3, x4, yc - 1⟩ = some r) := hnx
        have hs1 : Y1.size ≤ 1000000 := by rw [hY1, str_size]; exact hl1
        have hs2 : X2.size ≤ 1000000 := by rw [HX.out.1, str_size]; exact hl2
        have hcat : ¬ 9223372036854775807 < Y1.size + X2.size := by omega
        have hci : (400 : Int) < (yc : Int) := by omega
        have f0 := hI.2.1.free 0
        have f4 := hI.2.1.free 4
        clear hI hgo hY1 hnx
        go_wp2
        go_roundg f
        case measure => omega
        case rel =>
          refine ⟨y1 ++ x2, yc - 1, HNX.out, ?_, ?_, ?_⟩
          · exact (HI.out.1.setCell (a := ⟨w.heap.size, 0, none⟩) (fun e => absurd e (Nat.lt_irrefl _)) _).setCell (a := ⟨w.heap.size, 4, none⟩) (fun e => absurd e (Nat.lt_irrefl _)) _
          · have h := (HI.out.2.1.set 0 (.string (Y1 ++ X2))).set 4 (.int .i64 ((yc : Int) - 1))
            have e1 : ((yc - 1 : Nat) : Int) = (yc : Int) - 1 := by omega
            rw [e1, ← str_cat, ← HY1.out, ← HX.out.1]
            exact h
          · exact (HI.out.2.2.other (a := ⟨w.heap.size, 0, none⟩) (by show w.heap.size + 1 ≠ w.heap.size; omega) _).other (a := ⟨w.heap.size, 4, none⟩) (by show w.heap.size + 1 ≠ w.heap.size; omega) _
      · have HR : Hid (r = ⟨y1, x2, x3, x4, yc⟩) := hr.symm
        simp only at hc
        have hci : ¬ (400 : Int) < (yc : Int) := by omega
        have u0 := hI.2.2.cell 0 rfl
        have u1 := hI.2.2.cell 1 rfl
        have u2 := hI.2.2.cell 2 rfl
        have u3 := hI.2.2.cell 3 rfl
        have u4 := hI.2.2.cell 4 rfl
        have f0 := hI.2.2.free 0
        have f1 := hI.2.2.free 1
        have f2 := hI.2.2.free 2
        have f3 := hI.2.2.free 3
        have f4 := hI.2.2.free 4
        clear hI hgo hY1 hr
        go_wp2
        refine bodyPost_ret (v := .agg #[.string Y1, .string X2, .string X3, .string X4, .int .i64 (yc : Int)]) (by simp [results, Tryz.results134, go_sem, u0, u1, u2, u3, u4]) rfl ?_
        refine ⟨?_, ?_⟩
        · rw [HR.out, HY1.out, HX.out.1, HX.out.2.1, HX.out.2.2]
        · exact ((((HI.out.1.setCell (a := ⟨w.heap.size + 1, 0, none⟩) (fun e => absurd e (by show ¬ w.heap.size + 1 < w.heap.size; omega)) _).setCell (a := ⟨w.heap.size + 1, 1, none⟩) (fun e => absurd e (by show ¬ w.heap.size + 1 < w.heap.size; omega)) _).setCell (a := ⟨w.heap.size + 1, 2, none⟩) (fun e => absurd e (by show ¬ w.heap.size + 1 < w.heap.size; omega)) _).setCell (a := ⟨w.heap.size + 1, 3, none⟩) (fun e => absurd e (by show ¬ w.heap.size + 1 < w.heap.size; omega)) _).setCell (a := ⟨w.heap.size + 1, 4, none⟩) (fun e => absurd e (by show ¬ w.heap.size + 1 < w.heap.size; omega)) _
end Go.Proofs.YtmbapmbpnnaanabGreatDoor
