import Derived.Test.YtmbapmbpnnaanabDoorH
namespace Go.Proofs.YtmbapmbpnnaanabDoor
open Go.RowKit

theorem i64_or_nat (a b : Nat) (ha : a < 512) (hb : b < 512) : bits .or .i64 (a : Int) (b : Int) = ((a ||| b : Nat) : Int) := by
  have hx : a ||| b < 2 ^ 9 := Nat.or_lt_two_pow (by omega) (by omega)
  show IntKind.i64.wrap ((BitVec.ofInt 64 (a : Int) ||| BitVec.ofInt 64 (b : Int)).toNat : Int) = _
  rw [BitVec.toNat_or, ofInt_u64 a (by omega), ofInt_u64 b (by omega), IntKind.wrap_i64]
  omega
theorem or_lt (a b : Nat) (ha : a < 512) (hb : b < 512) : a ||| b < 512 := Nat.or_lt_two_pow (n := 9) (by omega) (by omega)

/-- Numbers in a slice of the call's own, or of whoever's. -/
def Ints (w : World) (v : Value) (xs : List Nat) : Prop := w.ownsRow 0 3 1 v xs.length (xs.map fun (x : Nat) => Value.int .i64 (x : Int))
theorem Ints.below {w w' : World} {v : Value} {xs : List Nat} {B : Nat} (h : Ints w v xs) (hb : Below B w w') (hB : w.heap.size ≤ B) : Ints w' v xs := by
  refine ⟨h.1, ?_⟩
  rcases h.2 with h2 | ⟨g, cap, cur, rfl, hg, hh, r⟩
  · exact .inl h2
  · exact .inr ⟨g, cap, cur, rfl, hg, (hb.block g (Nat.lt_of_lt_of_le (Array.getElem?_eq_some_iff.1 hh).1 hB)).trans hh, r⟩
theorem Ints.form {w : World} {v : Value} {xs : List Nat} (h : Ints w v xs) (h0 : 0 < xs.length) : ∃ g cap, v = .slice (some ⟨g, 0, none⟩) xs.length cap ∧ g < w.heap.size ∧ xs.length ≤ cap := by
  rcases h.2 with ⟨_, h2⟩ | ⟨g, cap, cur, rfl, hg, hh, r⟩
  · omega
  · exact ⟨g, cap, rfl, (Array.getElem?_eq_some_iff.1 hh).1, r.1⟩
theorem Ints.cell {w : World} {g n cap : Nat} {xs : List Nat} (h : Ints w (.slice (some ⟨g, 0, none⟩) n cap) xs) (i x : Nat) (hx : xs[i]? = some x) : w.cell? ⟨g, i, none⟩ = some (.int .i64 (x : Int)) := by
  have := World.ownsRow.cells h (g := g) rfl i (.int .i64 (x : Int)) (by simp [hx])
  have hadd : (⟨g, 0, none⟩ : Addr).add i = ⟨g, i, none⟩ := by unfold Addr.add; split <;> simp_all
  rw [hadd] at this
  exact this

def bgPart (S : ByteArray) (N : Nat) (sets : List Nat) : Nat := if S.size = 0 then sets.getD N 0 else bgnM S
def bgA (S0 S1 S2 S3 S4 : ByteArray) (N0 N1 N2 N3 : Nat) (sets : List Nat) : Nat → Nat
  | 0 => bgnM S0
  | 1 => bgnM S0 ||| bgPart S1 N0 sets
  | 2 => bgnM S0 ||| bgPart S1 N0 sets ||| bgPart S2 N1 sets
  | 3 => bgnM S0 ||| bgPart S1 N0 sets ||| bgPart S2 N1 sets ||| bgPart S3 N2 sets
  | _ => bgnM S0 ||| bgPart S1 N0 sets ||| bgPart S2 N1 sets ||| bgPart S3 N2 sets ||| bgPart S4 N3 sets

theorem bgPart_lt (S : ByteArray) (N : Nat) (sets : List Nat) (h : ∀ x ∈ sets, x < 512) : bgPart S N sets < 512 := by
  unfold bgPart
  split
  · rw [List.getD_eq_getElem?_getD]
    cases hx : sets[N]? with
    | none => simp
    | some x => exact h x (List.mem_of_getElem? hx)
  · exact bgnM_lt S

set_option maxHeartbeats 1000000 in
set_option maxRecDepth 100000 in
theorem beginningsOf_any (S0 S1 S2 S3 S4 : ByteArray) (N0 N1 N2 N3 : Nat) (v : Value) (sets : List Nat) (w : World) (hst : Ints w v sets) (hlt : ∀ x ∈ sets, x < 512)
    (l0 : N0 < sets.length) (l1 : N1 < sets.length) (l2 : N2 < sets.length) (l3 : N3 < sets.length) (hl : sets.length ≤ 200) :
    Calls Tryd.prog 32 #[.agg #[.string S0, .string S1, .string S2, .string S3, .string S4, .int .i64 (N0 : Int), .int .i64 (N1 : Int), .int .i64 (N2 : Int), .int .i64 (N3 : Int)], v] w fun e w' =>
      e = .returned (.int .i64 (bgA S0 S1 S2 S3 S4 N0 N1 N2 N3 sets 4 : Int)) ∧ Below w.heap.size w w' := by
  obtain ⟨g, cap, rfl, hg, hcap⟩ := hst.form (by omega)
  obtain ⟨A, hA⟩ : ∃ A, A = bgA S0 S1 S2 S3 S4 N0 N1 N2 N3 sets := ⟨_, rfl⟩
  obtain ⟨n, hn⟩ : ∃ n, n = sets.length := ⟨_, rfl⟩
  rw [← hA]
  have hb0 := bgnM_lt S0
  have p1 := bgPart_lt S1 N0 sets hlt
  have p2 := bgPart_lt S2 N1 sets hlt
  have p3 := bgPart_lt S3 N2 sets hlt
  have p4 := bgPart_lt S4 N3 sets hlt
  have A0 : A 0 = bgnM S0 := by rw [hA]; rfl
  have A1 : A 1 = A 0 ||| bgPart S1 N0 sets := by rw [hA]; rfl
  have A2 : A 2 = A 1 ||| bgPart S2 N1 sets := by rw [hA]; rfl
  have A3 : A 3 = A 2 ||| bgPart S3 N2 sets := by rw [hA]; rfl
  have A4 : A 4 = A 3 ||| bgPart S4 N3 sets := by rw [hA]; rfl
  have b1 : A 1 < 512 := by rw [A1]; exact or_lt _ _ (by rw [A0]; exact hb0) p1
  have b2 : A 2 < 512 := by rw [A2]; exact or_lt _ _ b1 p2
  have b3 : A 3 < 512 := by rw [A3]; exact or_lt _ _ b2 p3
  have HLT : Hid (A 0 < 512 ∧ A 1 < 512 ∧ A 2 < 512 ∧ A 3 < 512) := ⟨by rw [A0]; exact hb0, b1, b2, b3⟩
  have HP : Hid (bgPart S1 N0 sets < 512 ∧ bgPart S2 N1 sets < 512 ∧ bgPart S3 N2 sets < 512 ∧ bgPart S4 N3 sets < 512) := ⟨p1, p2, p3, p4⟩
  have HA : Hid (A 1 = A 0 ||| bgPart S1 N0 sets ∧ A 2 = A 1 ||| bgPart S2 N1 sets ∧ A 3 = A 2 ||| bgPart S3 N2 sets ∧ A 4 = A 3 ||| bgPart S4 N3 sets) := ⟨A1, A2, A3, A4⟩
  have HA0 : Hid (A 0 = bgnM S0) := A0
  have HN : Hid (n = sets.length) := hn
  have Hlt : Hid (∀ x ∈ sets, x < 512) := hlt
  rw [← hn] at l0 l1 l2 l3 hl hcap hst ⊢
  clear hA A0 A1 A2 A3 A4 b1 b2 b3 p1 p2 p3 p4 hb0 hn hlt
  go_enter Tryd.func32, Tryd.ntmps32
  go_wp2_with (go_at_call 39; refine (beginning_any _ _).mono ?_; rintro e w1 ⟨rfl, nn, rfl⟩; refine Hid.out ?_)
  refine Lib.hid ?_
  go_wp2
  have ix0 := ix35_0 S1 S2 S3 S4
  have ix1 := ix35_1 S1 S2 S3 S4
  have ix2 := ix35_2 S1 S2 S3 S4
  have ix3 := ix35_3 S1 S2 S3 S4
  go_loopw [5, 13] (fun st jj wr => ∃ (j nn : Nat), j ≤ 4 ∧ jj = .int .i64 (j : Int) ∧ st = .int .i64 (A j : Int) ∧ wr = (w.alloc (.cells #[.string S0, .string S1, .string S2, .string S3, .string S4, .int .i64 (N0 : Int), .int .i64 (N1 : Int), .int .i64 (N2 : Int), .int .i64 (N3 : Int)] 38)).drewN nn) (fun _ jj _ => 4 - (intOf jj).toNat)
  case atStart => exact ⟨0, nn, by omega, rfl, by rw [HA0.out], rfl⟩
  case round =>
    obtain ⟨j, nn, hj, rfl, rfl, rfl⟩ := hrel
    match j, hj with
    | 0, _ =>
      have HOR : Hid (bits .or .i64 (A 0 : Int) (bgPart S1 N0 sets : Int) = (A 1 : Int)) := by
        show bits .or .i64 (A 0 : Int) (bgPart S1 N0 sets : Int) = (A 1 : Int)
        rw [HA.out.1]
        exact i64_or_nat _ _ (HLT.out.1) (HP.out.1)
      by_cases he : S1.size = 0
      · have hee : S1.toList.isEmpty = true := by rw [empty_iff]; exact decide_eq_true he
        obtain ⟨x, hx⟩ : ∃ x, sets[N0]? = some x := ⟨sets[N0]'(by have := HN.out; omega), List.getElem?_eq_getElem _⟩
        have hc := hst.cell N0 x hx
        have hor : bits .or .i64 (A 0 : Int) (x : Int) = (A 1 : Int) := by
          have := HOR.out
          rw [show bgPart S1 N0 sets = x by unfold bgPart; rw [if_pos he, List.getD_eq_getElem?_getD, hx]; rfl] at this
          exact this
        have hni : (N0 : Int) < (n : Int) := by omega
        clear hx he
        go_wp2
        go_roundw
        case rel => exact ⟨1, _, by omega, rfl, by rw [← hor], rfl⟩
        case measure => simp [intOf]
      · have hee : S1.toList.isEmpty = false := by rw [empty_iff]; exact decide_eq_false he
        have hor : bits .or .i64 (A 0 : Int) (bgnM S1 : Int) = (A 1 : Int) := by
          have := HOR.out
          rw [show bgPart S1 N0 sets = bgnM S1 by unfold bgPart; rw [if_neg he]] at this
          exact this
        clear he
        go_wp2_with (go_at_call 39; refine (beginning_any _ _).mono ?_; rintro e w1 ⟨rfl, mm, rfl⟩; refine Hid.out ?_)
        refine Lib.hid ?_
        go_wp2
        go_roundw
        case rel => exact ⟨1, _, by omega, rfl, by rw [← hor], rfl⟩
        case measure => simp [intOf]
    | 1, _ =>
      have HOR : Hid (bits .or .i64 (A 1 : Int) (bgPart S2 N1 sets : Int) = (A 2 : Int)) := by
        show bits .or .i64 (A 1 : Int) (bgPart S2 N1 sets : Int) = (A 2 : Int)
        rw [HA.out.2.1]
        exact i64_or_nat _ _ (HLT.out.2.1) (HP.out.2.1)
      by_cases he : S2.size = 0
      · have hee : S2.toList.isEmpty = true := by rw [empty_iff]; exact decide_eq_true he
        obtain ⟨x, hx⟩ : ∃ x, sets[N1]? = some x := ⟨sets[N1]'(by have := HN.out; omega), List.getElem?_eq_getElem _⟩
        have hc := hst.cell N1 x hx
        have hor : bits .or .i64 (A 1 : Int) (x : Int) = (A 2 : Int) := by
          have := HOR.out
          rw [show bgPart S2 N1 sets = x by unfold bgPart; rw [if_pos he, List.getD_eq_getElem?_getD, hx]; rfl] at this
          exact this
        have hni : (N1 : Int) < (n : Int) := by omega
        clear hx he
        go_wp2
        go_roundw
        case rel => exact ⟨2, _, by omega, rfl, by rw [← hor], rfl⟩
        case measure => simp [intOf]
      · have hee : S2.toList.isEmpty = false := by rw [empty_iff]; exact decide_eq_false he
        have hor : bits .or .i64 (A 1 : Int) (bgnM S2 : Int) = (A 2 : Int) := by
          have := HOR.out
          rw [show bgPart S2 N1 sets = bgnM S2 by unfold bgPart; rw [if_neg he]] at this
          exact this
        clear he
        go_wp2_with (go_at_call 39; refine (beginning_any _ _).mono ?_; rintro e w1 ⟨rfl, mm, rfl⟩; refine Hid.out ?_)
        refine Lib.hid ?_
        go_wp2
        go_roundw
        case rel => exact ⟨2, _, by omega, rfl, by rw [← hor], rfl⟩
        case measure => simp [intOf]
    | 2, _ =>
      have HOR : Hid (bits .or .i64 (A 2 : Int) (bgPart S3 N2 sets : Int) = (A 3 : Int)) := by
        show bits .or .i64 (A 2 : Int) (bgPart S3 N2 sets : Int) = (A 3 : Int)
        rw [HA.out.2.2.1]
        exact i64_or_nat _ _ (HLT.out.2.2.1) (HP.out.2.2.1)
      by_cases he : S3.size = 0
      · have hee : S3.toList.isEmpty = true := by rw [empty_iff]; exact decide_eq_true he
        obtain ⟨x, hx⟩ : ∃ x, sets[N2]? = some x := ⟨sets[N2]'(by have := HN.out; omega), List.getElem?_eq_getElem _⟩
        have hc := hst.cell N2 x hx
        have hor : bits .or .i64 (A 2 : Int) (x : Int) = (A 3 : Int) := by
          have := HOR.out
          rw [show bgPart S3 N2 sets = x by unfold bgPart; rw [if_pos he, List.getD_eq_getElem?_getD, hx]; rfl] at this
          exact this
        have hni : (N2 : Int) < (n : Int) := by omega
        clear hx he
        go_wp2
        go_roundw
        case rel => exact ⟨3, _, by omega, rfl, by rw [← hor], rfl⟩
        case measure => simp [intOf]
      · have hee : S3.toList.isEmpty = false := by rw [empty_iff]; exact decide_eq_false he
        have hor : bits .or .i64 (A 2 : Int) (bgnM S3 : Int) = (A 3 : Int) := by
          have := HOR.out
          rw [show bgPart S3 N2 sets = bgnM S3 by unfold bgPart; rw [if_neg he]] at this
          exact this
        clear he
        go_wp2_with (go_at_call 39; refine (beginning_any _ _).mono ?_; rintro e w1 ⟨rfl, mm, rfl⟩; refine Hid.out ?_)
        refine Lib.hid ?_
        go_wp2
        go_roundw
        case rel => exact ⟨3, _, by omega, rfl, by rw [← hor], rfl⟩
        case measure => simp [intOf]
    | 3, _ =>
      have HOR : Hid (bits .or .i64 (A 3 : Int) (bgPart S4 N3 sets : Int) = (A 4 : Int)) := by
        show bits .or .i64 (A 3 : Int) (bgPart S4 N3 sets : Int) = (A 4 : Int)
        rw [HA.out.2.2.2]
        exact i64_or_nat _ _ (HLT.out.2.2.2) (HP.out.2.2.2)
      by_cases he : S4.size = 0
      · have hee : S4.toList.isEmpty = true := by rw [empty_iff]; exact decide_eq_true he
        obtain ⟨x, hx⟩ : ∃ x, sets[N3]? = some x := ⟨sets[N3]'(by have := HN.out; omega), List.getElem?_eq_getElem _⟩
        have hc := hst.cell N3 x hx
        have hor : bits .or .i64 (A 3 : Int) (x : Int) = (A 4 : Int) := by
          have := HOR.out
          rw [show bgPart S4 N3 sets = x by unfold bgPart; rw [if_pos he, List.getD_eq_getElem?_getD, hx]; rfl] at this
          exact this
        have hni : (N3 : Int) < (n : Int) := by omega
        clear hx he
        go_wp2
        go_roundw
        case rel => exact ⟨4, _, by omega, rfl, by rw [← hor], rfl⟩
        case measure => simp [intOf]
      · have hee : S4.toList.isEmpty = false := by rw [empty_iff]; exact decide_eq_false he
        have hor : bits .or .i64 (A 3 : Int) (bgnM S4 : Int) = (A 4 : Int) := by
          have := HOR.out
          rw [show bgPart S4 N3 sets = bgnM S4 by unfold bgPart; rw [if_neg he]] at this
          exact this
        clear he
        go_wp2_with (go_at_call 39; refine (beginning_any _ _).mono ?_; rintro e w1 ⟨rfl, mm, rfl⟩; refine Hid.out ?_)
        refine Lib.hid ?_
        go_wp2
        go_roundw
        case rel => exact ⟨4, _, by omega, rfl, by rw [← hor], rfl⟩
        case measure => simp [intOf]
    | 4, _ =>
      go_wp2
      go_ret
      exact ⟨rfl, below_dN ((Below.refl _ _).alloc (Nat.le_refl _) _) _⟩
end Go.Proofs.YtmbapmbpnnaanabDoor
