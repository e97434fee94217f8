import Derived.Test.YtmbapmbpnnaanabGreatDoorNM
namespace Go.Proofs.YtmbapmbpnnaanabGreatDoor.M3
open Go.Proofs.YtmbapmbpnnaanabGreatDoor.M2
def wayOk (w : M2.Way) : Bool := decide (w.tt.length ≤ 10000000) && (decide (w.ro.length ≤ 10000000) && decide (w.re.length ≤ 10000000))
/-- some none: no witness. -/
def weigh (v : View) (pairs : List Pair) (x y : List UInt8) (at' : Nat) : Option (Option Wit) :=
  match pairs[at']? with
  | none => none
  | some p => match wayM v x y p.x, wayM v x y p.y with
    | some one, some other => if wayOk one && wayOk other then
        match ahead' one other with
        | none => none
        | some (_, false) => some none
        | some (c, true) => match v.k.words[p.x]?, v.k.words[p.y]? with
          | some z1, some z2 => match settle 10000 ⟨x, y, z1, z2, c⟩ with
            | none => none
            | some r => some (some r)
          | _, _ => none
      else none
    | _, _ => none
end Go.Proofs.YtmbapmbpnnaanabGreatDoor.M3
namespace Go.Proofs.YtmbapmbpnnaanabGreatDoor
open Go.RowKit
attribute [local go_sem ↓] Go.wp_at_zero Go.wp_at_succ

theorem wayOk_of {w : M2.Way} (h : M3.wayOk w = true) : w.tt.length ≤ 10000000 ∧ w.ro.length ≤ 10000000 ∧ w.re.length ≤ 10000000 := by
  unfold M3.wayOk at h
  simp only [Bool.and_eq_true, decide_eq_true_eq] at h
  exact h
theorem weigh_spec {v : M2.View} {pairs : List M2.Pair} {x y : List UInt8} {at' : Nat} {r : Option M2.Wit} (h : M3.weigh v pairs x y at' = some r) : ∃ p one other c b, pairs[at']? = some p ∧ M3.wayM v x y p.x = some one ∧ M3.wayM v x y p.y = some other ∧ M3.wayOk one = true ∧ M3.wayOk other = true ∧ M2.ahead' one other = some (c, b) ∧ ((b = false ∧ r = none) ∨ (b = true ∧ ∃ z1 z2 s, v.k.words[p.x]? = some z1 ∧ v.k.words[p.y]? = some z2 ∧ M3.settle 10000 ⟨x, y, z1, z2, c⟩ = some s ∧ r = some s)) := by
  unfold M3.weigh at h
  split at h
  · cases h
  · rename_i p hp
    split at h
    · rename_i one other h1 h2
      split at h
      · rename_i hok
        rw [Bool.and_eq_true] at hok
        split at h
        · cases h
        · rename_i c ha
          exact ⟨p, one, other, c, false, hp, h1, h2, hok.1, hok.2, ha, Or.inl ⟨rfl, (Option.some.inj h).symm⟩⟩
        · rename_i c ha
          refine ⟨p, one, other, c, true, hp, h1, h2, hok.1, hok.2, ha, Or.inr ⟨rfl, ?_⟩⟩
          split at h
          · rename_i z1 z2 hz1 hz2
            split at h
            · cases h
            · rename_i s hs
              exact ⟨z1, z2, s, hz1, hz2, hs, (Option.some.inj h).symm⟩
          · cases h
      · cases h
    · cases h
def wiR (r : Option M2.Wit) : Value := .tuple #[.agg (wiC (r.getD wit0)).toArray, .bool r.isSome]

set_option maxHeartbeats 1600000 in
set_option maxRecDepth 100000 in
theorem weigh_any (w : World) (v : M2.View) (base S : Nat) (ka kw kh kd vp c5 vn vs vf vo fo la : Value) (R : M3.GG) (found : List M2.Fnd) (last : List Nat) (h : SG v base S ka kw kh kd vp c5 vn vs vf vo fo la R found last w) (x y : List UInt8) (at' : Nat) {r : Option M2.Wit} (hM : M3.weigh v R.g.pairs x y at' = some r) :
    Calls Tryz.prog 104 #[.pointer (some ⟨S, 0, none⟩), .string ⟨x.toArray⟩, .string ⟨y.toArray⟩, .int .i64 (at' : Int)] w fun e w' => e = .returned (wiR r) ∧ Mod No w w' := by
  obtain ⟨p, one, other, c, b, hp, hone, hother, ho1, ho2, hah, hcase⟩ := weigh_spec hM
  have hpl : at' < R.g.pairs.length := (List.getElem?_eq_some_iff.1 hp).1
  obtain ⟨gp, pC, evp, -, -⟩ := h.pr.form (by omega)
  obtain ⟨NP, hNP⟩ : ∃ N, N = R.g.pairs.length := ⟨_, rfl⟩
  rw [← hNP] at evp hpl
  have hrp := h.pr
  rw [evp] at hrp
  obtain ⟨a1, n1, c1, e1⟩ := h.vw.ah.sl
  obtain ⟨a2, n2, c2, e2⟩ := h.vw.wo.sl
  obtain ⟨a3, n3, c3, e3⟩ := h.vw.hi.sl
  obtain ⟨a4, n4, c4, e4⟩ := h.vw.de.sl
  have HE : Hid (ka = .slice a1 n1 c1 ∧ kw = .slice a2 n2 c2 ∧ kh = .slice a3 n3 c3 ∧ kd = .slice a4 n4 c4) := ⟨e1, e2, e3, e4⟩
  have H80a : Hid (∀ wx, Mod No w wx → Calls Tryz.prog 132 #[.agg #[.slice a1 n1 c1, .slice a2 n2 c2, .slice a3 n3 c3, .slice a4 n4 c4], .string ⟨x.toArray⟩, .string ⟨y.toArray⟩, .int .i64 (p.x : Int)] wx fun e w' => e = .returned (.agg #[.string ⟨one.tt.toArray⟩, .string ⟨one.ro.toArray⟩, .string ⟨one.re.toArray⟩]) ∧ Mod No wx w') := fun wx hm => by
    have := follow'_any wx v base ka kw kh kd (h.vw.no hm) x y p.x hone
    rwa [e1, e2, e3, e4] at this
  have H80b : Hid (∀ wx, Mod No w wx → Calls Tryz.prog 132 #[.agg #[.slice a1 n1 c1, .slice a2 n2 c2, .slice a3 n3 c3, .slice a4 n4 c4], .string ⟨x.toArray⟩, .string ⟨y.toArray⟩, .int .i64 (p.y : Int)] wx fun e w' => e = .returned (.agg #[.string ⟨other.tt.toArray⟩, .string ⟨other.ro.toArray⟩, .string ⟨other.re.toArray⟩]) ∧ Mod No wx w') := fun wx hm => by
    have := follow'_any wx v base ka kw kh kd (h.vw.no hm) x y p.y hother
    rwa [e1, e2, e3, e4] at this
  have hk1 := wayOk_of ho1
  have hk2 := wayOk_of ho2
  have H81 : Hid (∀ wx, Calls Tryz.prog 133 #[.agg #[.string ⟨one.tt.toArray⟩, .string ⟨one.ro.toArray⟩, .string ⟨one.re.toArray⟩], .agg #[.string ⟨other.tt.toArray⟩, .string ⟨other.ro.toArray⟩, .string ⟨other.re.toArray⟩]] wx fun e w' => e = .returned (.tuple #[.int .i64 (c : Int), .bool b]) ∧ Mod No wx w') := fun wx => ahead'_any wx ⟨one.tt.toArray⟩ ⟨one.ro.toArray⟩ ⟨one.re.toArray⟩ ⟨other.tt.toArray⟩ ⟨other.ro.toArray⟩ ⟨other.re.toArray⟩ (by rw [str_size]; exact hk1.1) (by rw [str_size]; exact hk1.2.1) (by rw [str_size]; exact hk1.2.2) (by rw [str_size]; exact hk2.1) (by rw [str_size]; exact hk2.2.1) (by rw [str_size]; exact hk2.2.2) hah
  obtain ⟨XX, hXX⟩ : ∃ X, X = (⟨x.toArray⟩ : ByteArray) := ⟨_, rfl⟩
  obtain ⟨YY, hYY⟩ : ∃ X, X = (⟨y.toArray⟩ : ByteArray) := ⟨_, rfl⟩
  rw [← hXX, ← hYY] at H80a H80b ⊢
  generalize (⟨one.tt.toArray⟩ : ByteArray) = T1 at H80a H81
  generalize (⟨one.ro.toArray⟩ : ByteArray) = O1 at H80a H81
  generalize (⟨one.re.toArray⟩ : ByteArray) = E1 at H80a H81
  generalize (⟨other.tt.toArray⟩ : ByteArray) = T2 at H80b H81
  generalize (⟨other.ro.toArray⟩ : ByteArray) = O2 at H80b H81
  generalize (⟨other.re.toArray⟩ : ByteArray) = E2 at H80b H81
  have HX : Hid (XX = (⟨x.toArray⟩ : ByteArray) ∧ YY = (⟨y.toArray⟩ : ByteArray)) := ⟨hXX, hYY⟩
  have HI : Hid (SG v base S ka kw kh kd vp c5 vn vs vf vo fo la R found last w) := h
  have HCASE : Hid ((b = false ∧ r = none) ∨ (b = true ∧ ∃ z1 z2 s, v.k.words[p.x]? = some z1 ∧ v.k.words[p.y]? = some z2 ∧ M3.settle 10000 ⟨x, y, z1, z2, c⟩ = some s ∧ r = some s)) := hcase
  have k4 := fun o => h.blk.cellA (w := w) 4 rfl o
  rw [evp] at k4
  have P0 : ∀ o, (w.alloc o).cell? ⟨gp, at' * 4, none⟩ = some (.int .i64 (p.x : Int)) := fun o => (hrp.alloc o).cell at' 0 hp rfl
  have P1 : ∀ o, (w.alloc o).cell? ⟨gp, at' * 4 + 1, none⟩ = some (.int .i64 (p.s : Int)) := fun o => (hrp.alloc o).cell at' 1 hp rfl
  have P2 : ∀ o, (w.alloc o).cell? ⟨gp, at' * 4 + 2, none⟩ = some (.int .i64 (p.y : Int)) := fun o => (hrp.alloc o).cell at' 2 hp rfl
  have P3 : ∀ o, (w.alloc o).cell? ⟨gp, at' * 4 + 3, none⟩ = some (.int .i64 (p.t : Int)) := fun o => (hrp.alloc o).cell at' 3 hp rfl
  have hai : (at' : Int) < (NP : Int) := by omega
  have ha0 : (0 : Int) ≤ (at' : Int) := by omega
  clear h hM hp hone hother ho1 ho2 hah hcase evp hNP hrp e1 e2 e3 e4 hk1 hk2 hXX hYY
  go_enter Tryz.func104, Tryz.ntmps104
  go_wp2_with fail
  have HW1 : Hid (SG v base S ka kw kh kd vp c5 vn vs vf vo fo la R found last ((w.alloc (Obj.cells #[.string ⟨#[]⟩, .string ⟨#[]⟩, .string ⟨#[]⟩, .string ⟨#[]⟩, .int .i64 0] 40)).alloc (Obj.cells #[.int .i64 (p.x : Int), .int .i64 (p.s : Int), .int .i64 (p.y : Int), .int .i64 (p.t : Int)] 218)) ∧ Blk ((w.alloc (Obj.cells #[.string ⟨#[]⟩, .string ⟨#[]⟩, .string ⟨#[]⟩, .string ⟨#[]⟩, .int .i64 0] 40)).alloc (Obj.cells #[.int .i64 (p.x : Int), .int .i64 (p.s : Int), .int .i64 (p.y : Int), .int .i64 (p.t : Int)] 218)) w.heap.size [.string ⟨#[]⟩, .string ⟨#[]⟩, .string ⟨#[]⟩, .string ⟨#[]⟩, .int .i64 0] 40 ∧ Blk ((w.alloc (Obj.cells #[.string ⟨#[]⟩, .string ⟨#[]⟩, .string ⟨#[]⟩, .string ⟨#[]⟩, .int .i64 0] 40)).alloc (Obj.cells #[.int .i64 (p.x : Int), .int .i64 (p.s : Int), .int .i64 (p.y : Int), .int .i64 (p.t : Int)] 218)) (w.heap.size + 1) [.int .i64 (p.x : Int), .int .i64 (p.s : Int), .int .i64 (p.y : Int), .int .i64 (p.t : Int)] 218 ∧ Mod No w ((w.alloc (Obj.cells #[.string ⟨#[]⟩, .string ⟨#[]⟩, .string ⟨#[]⟩, .string ⟨#[]⟩, .int .i64 0] 40)).alloc (Obj.cells #[.int .i64 (p.x : Int), .int .i64 (p.s : Int), .int .i64 (p.y : Int), .int .i64 (p.t : Int)] 218))) := ⟨HI.out.no (((Mod.refl _ _).alloc _).alloc _), new2_0 w _ _, new2_1 w _ _, ((Mod.refl _ _).alloc _).alloc _⟩
  generalize ((w.alloc (Obj.cells #[.string ⟨#[]⟩, .string ⟨#[]⟩, .string ⟨#[]⟩, .string ⟨#[]⟩, .int .i64 0] 40)).alloc (Obj.cells #[.int .i64 (p.x : Int), .int .i64 (p.s : Int), .int .i64 (p.y : Int), .int .i64 (p.t : Int)] 218)) = W1 at HW1 ⊢
  clear HI k4 P0 P1 P2 P3
  have k0 := HW1.out.1.blk.cell 0 rfl
  have k1 := HW1.out.1.blk.cell 1 rfl
  have k2 := HW1.out.1.blk.cell 2 rfl
  have k3 := HW1.out.1.blk.cell 3 rfl
  have K0 := HW1.out.1.blk.cellA 0 rfl
  have K1 := HW1.out.1.blk.cellA 1 rfl
  have K2 := HW1.out.1.blk.cellA 2 rfl
  have K3 := HW1.out.1.blk.cellA 3 rfl
  rw [HE.out.1] at k0 K0
  rw [HE.out.2.1] at k1 K1
  rw [HE.out.2.2.1] at k2 K2
  rw [HE.out.2.2.2] at k3 K3
  have q0 := HW1.out.2.2.1.cell 0 rfl
  have Q0 := HW1.out.2.2.1.cellA 0 rfl
  go_cut [11] from 24 to 33 (fun sl wc => ∃ P, sl = .pointer (some ⟨P, 0, none⟩) ∧ Blk wc P [.string T1, .string O1, .string E1] 258 ∧ Mod No W1 wc)
  case first =>
    go_region_with (first | (go_at_call 132; refine (H80a.out _ (HW1.out.2.2.2.no ((Mod.refl _ _).drew.alloc _))).mono ?_; rintro e wA ⟨rfl, mA⟩; have zB : Blk wA W1.heap.size [.string ⟨#[]⟩, .string ⟨#[]⟩, .string ⟨#[]⟩] 258 := Blk.mod (Blk.new W1.drew [.string ⟨#[]⟩, .string ⟨#[]⟩, .string ⟨#[]⟩] 258) mA (fun x => x); have z0 := zB.cell 0 rfl; have z1 := zB.cell 1 rfl; have z2 := zB.cell 2 rfl; have g0 := zB.free 0; have g1 := zB.free 1; have g2 := zB.free 2) | (go_at_call 132; refine (H80a.out _ (HW1.out.2.2.2.no (Mod.refl _ _).drew)).mono ?_; rintro e wA ⟨rfl, mA⟩))
    all_goals (try go_wp2_with fail)
    all_goals go_meet
    all_goals first
      | exact ⟨_, rfl, heap_alloc_new wA _, ((Mod.refl _ _).drew.no mA).alloc _⟩
      | exact ⟨_, rfl, ((zB.set 0 _).set 1 _).set 2 _, (((((Mod.refl _ _).drew.alloc _).no mA).setCell (a := ⟨W1.heap.size, 0, none⟩) (fun e => absurd e (Nat.lt_irrefl _)) _).setCell (a := ⟨W1.heap.size, 1, none⟩) (fun e => absurd e (Nat.lt_irrefl _)) _).setCell (a := ⟨W1.heap.size, 2, none⟩) (fun e => absurd e (Nat.lt_irrefl _)) _⟩
  case rest =>
  obtain ⟨PA, rfl, hPA, mc⟩ := hcut
  have HW2 : Hid (SG v base S ka kw kh kd vp c5 vn vs vf vo fo la R found last wc ∧ Blk wc w.heap.size [.string ⟨#[]⟩, .string ⟨#[]⟩, .string ⟨#[]⟩, .string ⟨#[]⟩, .int .i64 0] 40 ∧ Blk wc (w.heap.size + 1) [.int .i64 (p.x : Int), .int .i64 (p.s : Int), .int .i64 (p.y : Int), .int .i64 (p.t : Int)] 218 ∧ Mod No w wc) := ⟨HW1.out.1.no mc, HW1.out.2.1.mod mc (fun x => x), HW1.out.2.2.1.mod mc (fun x => x), HW1.out.2.2.2.no mc⟩
  have HPA : Hid (Blk wc PA [.string T1, .string O1, .string E1] 258) := hPA
  clear HW1 k0 k1 k2 k3 K0 K1 K2 K3 q0 Q0 mc hPA H80a
  have HWC : Hid (∃ W, W = wc) := ⟨_, rfl⟩
  obtain ⟨W2, hW2⟩ := HWC.out
  rw [← hW2] at HW2 HPA ⊢
  clear hW2 HWC
  have k0 := HW2.out.1.blk.cell 0 rfl
  have k1 := HW2.out.1.blk.cell 1 rfl
  have k2 := HW2.out.1.blk.cell 2 rfl
  have k3 := HW2.out.1.blk.cell 3 rfl
  have K0 := HW2.out.1.blk.cellA 0 rfl
  have K1 := HW2.out.1.blk.cellA 1 rfl
  have K2 := HW2.out.1.blk.cellA 2 rfl
  have K3 := HW2.out.1.blk.cellA 3 rfl
  rw [HE.out.1] at k0 K0
  rw [HE.out.2.1] at k1 K1
  rw [HE.out.2.2.1] at k2 K2
  rw [HE.out.2.2.2] at k3 K3
  have q0 := HW2.out.2.2.1.cell 2 rfl
  have Q0 := HW2.out.2.2.1.cellA 2 rfl
  go_wp2_with fail
  go_cut [12] from 34 to 43 (fun sl wc => ∃ P, sl = .pointer (some ⟨P, 0, none⟩) ∧ Blk wc P [.string T2, .string O2, .string E2] 258 ∧ Mod No W2 wc)
  case first =>
    go_region_with (first | (go_at_call 132; refine (H80b.out _ (HW2.out.2.2.2.no ((Mod.refl _ _).drew.alloc _))).mono ?_; rintro e wA ⟨rfl, mA⟩; have zB : Blk wA W2.heap.size [.string ⟨#[]⟩, .string ⟨#[]⟩, .string ⟨#[]⟩] 258 := Blk.mod (Blk.new W2.drew [.string ⟨#[]⟩, .string ⟨#[]⟩, .string ⟨#[]⟩] 258) mA (fun x => x); have z0 := zB.cell 0 rfl; have z1 := zB.cell 1 rfl; have z2 := zB.cell 2 rfl; have g0 := zB.free 0; have g1 := zB.free 1; have g2 := zB.free 2) | (go_at_call 132; refine (H80b.out _ (HW2.out.2.2.2.no (Mod.refl _ _).drew)).mono ?_; rintro e wA ⟨rfl, mA⟩))
    all_goals (try go_wp2_with fail)
    all_goals go_meet
    all_goals first
      | exact ⟨_, rfl, heap_alloc_new wA _, ((Mod.refl _ _).drew.no mA).alloc _⟩
      | exact ⟨_, rfl, ((zB.set 0 _).set 1 _).set 2 _, (((((Mod.refl _ _).drew.alloc _).no mA).setCell (a := ⟨W2.heap.size, 0, none⟩) (fun e => absurd e (Nat.lt_irrefl _)) _).setCell (a := ⟨W2.heap.size, 1, none⟩) (fun e => absurd e (Nat.lt_irrefl _)) _).setCell (a := ⟨W2.heap.size, 2, none⟩) (fun e => absurd e (Nat.lt_irrefl _)) _⟩
  case rest =>
  obtain ⟨PB, rfl, hPB, mc⟩ := hcut
  have HW3 : Hid ((SG v base S ka kw kh kd vp c5 vn vs vf vo fo la R found last wc ∧ Blk wc w.heap.size [.string ⟨#[]⟩, .string ⟨#[]⟩, .string ⟨#[]⟩, .string ⟨#[]⟩, .int .i64 0] 40 ∧ Blk wc (w.heap.size + 1) [.int .i64 (p.x : Int), .int .i64 (p.s : Int), .int .i64 (p.y : Int), .int .i64 (p.t : Int)] 218 ∧ Mod No w wc) ∧ Blk wc PA [.string T1, .string O1, .string E1] 258 ∧ Blk wc PB [.string T2, .string O2, .string E2] 258) := ⟨⟨HW2.out.1.no mc, HW2.out.2.1.mod mc (fun x => x), HW2.out.2.2.1.mod mc (fun x => x), HW2.out.2.2.2.no mc⟩, HPA.out.mod mc (fun x => x), hPB⟩
  clear HW2 k0 k1 k2 k3 K0 K1 K2 K3 q0 Q0 mc hPB H80b HPA
  have a0 := HW3.out.2.1.cell 0 rfl
  have a1' := HW3.out.2.1.cell 1 rfl
  have a2' := HW3.out.2.1.cell 2 rfl
  have b0 := HW3.out.2.2.cell 0 rfl
  have b1 := HW3.out.2.2.cell 1 rfl
  have b2 := HW3.out.2.2.cell 2 rfl
  go_wp2_with fail
  refine (H81.out _).mono ?_
  rintro e w4 ⟨rfl, m4⟩
  have HW4 : Hid (SG v base S ka kw kh kd vp c5 vn vs vf vo fo la R found last w4 ∧ Blk w4 w.heap.size [.string ⟨#[]⟩, .string ⟨#[]⟩, .string ⟨#[]⟩, .string ⟨#[]⟩, .int .i64 0] 40 ∧ Blk w4 (w.heap.size + 1) [.int .i64 (p.x : Int), .int .i64 (p.s : Int), .int .i64 (p.y : Int), .int .i64 (p.t : Int)] 218 ∧ Mod No w w4) := ⟨HW3.out.1.1.no m4, HW3.out.1.2.1.mod m4 (fun x => x), HW3.out.1.2.2.1.mod m4 (fun x => x), HW3.out.1.2.2.2.no m4⟩
  clear HW3 m4 a0 a1' a2' b0 b1 b2 H81
  rcases HCASE.out with ⟨rfl, hr⟩ | ⟨rfl, z1, z2, sr, hz1, hz2, hst, hr⟩
  · have HR : Hid (r = none) := hr
    clear hr HCASE
    have u0 := HW4.out.2.1.cell 0 rfl
    have f0 := HW4.out.2.1.free 0
    have u1 := HW4.out.2.1.cell 1 rfl
    have f1 := HW4.out.2.1.free 1
    have u2 := HW4.out.2.1.cell 2 rfl
    have f2 := HW4.out.2.1.free 2
    have u3 := HW4.out.2.1.cell 3 rfl
    have f3 := HW4.out.2.1.free 3
    have u4 := HW4.out.2.1.cell 4 rfl
    have f4 := HW4.out.2.1.free 4
    go_wp2
    refine bodyPost_ret (v := .tuple #[.agg #[.string ⟨#[]⟩, .string ⟨#[]⟩, .string ⟨#[]⟩, .string ⟨#[]⟩, .int .i64 0], .bool false]) (by simp [results, Tryz.results104, go_sem, u0, u1, u2, u3, u4]) rfl ?_
    exact ⟨by rw [HR.out]; rfl, (((((HW4.out.2.2.2.setCell (a := ⟨w.heap.size, 0, none⟩) (fun e => absurd e (Nat.lt_irrefl _)) _).setCell (a := ⟨w.heap.size, 1, none⟩) (fun e => absurd e (Nat.lt_irrefl _)) _).setCell (a := ⟨w.heap.size, 2, none⟩) (fun e => absurd e (Nat.lt_irrefl _)) _).setCell (a := ⟨w.heap.size, 3, none⟩) (fun e => absurd e (Nat.lt_irrefl _)) _).setCell (a := ⟨w.heap.size, 4, none⟩) (fun e => absurd e (Nat.lt_irrefl _)) _)⟩
  · have HR : Hid (r = some sr) := hr
    have hw1 : p.x < v.k.words.length := (List.getElem?_eq_some_iff.1 hz1).1
    have hw2 : p.y < v.k.words.length := (List.getElem?_eq_some_iff.1 hz2).1
    obtain ⟨NW, hNW⟩ : ∃ N, N = v.k.words.length := ⟨_, rfl⟩
    have hrw := HW4.out.1.vw.wo
    obtain ⟨gw, cw, ew, -, -⟩ := hrw.form (by omega)
    rw [← hNW] at ew hw1 hw2
    rw [ew] at hrw
    have ew2 : Value.slice a2 n2 c2 = .slice (some ⟨gw, 0, none⟩) NW cw := by rw [← HE.out.2.1]; exact ew
    injection ew2 with ew2 ew3 ew4
    subst ew2
    subst ew3
    subst ew4
    have k1 := HW4.out.1.blk.cell 1 rfl
    rw [HE.out.2.1] at k1
    obtain ⟨Z1, hZ1⟩ : ∃ X, X = (⟨z1.toArray⟩ : ByteArray) := ⟨_, rfl⟩
    obtain ⟨Z2, hZ2⟩ : ∃ X, X = (⟨z2.toArray⟩ : ByteArray) := ⟨_, rfl⟩
    have y1 : w4.cell? ⟨gw, p.x, none⟩ = some (.string Z1) := by rw [hZ1]; exact StE.cell hrw hz1
    have y2 : w4.cell? ⟨gw, p.y, none⟩ = some (.string Z2) := by rw [hZ2]; exact StE.cell hrw hz2
    have Y1 : ∀ o, (w4.alloc o).cell? ⟨gw, p.x, none⟩ = some (.string Z1) := fun o => by rw [hZ1]; exact StE.cell (hrw.alloc o) hz1
    have Y2 : ∀ o, (w4.alloc o).cell? ⟨gw, p.y, none⟩ = some (.string Z2) := fun o => by rw [hZ2]; exact StE.cell (hrw.alloc o) hz2
    have q0 := HW4.out.2.2.1.cell 0 rfl
    have Q0 := HW4.out.2.2.1.cellA 0 rfl
    have q2 := HW4.out.2.2.1.cell 2 rfl
    have Q2 := HW4.out.2.2.1.cellA 2 rfl
    have hwi1 : (p.x : Int) < (n2 : Int) := by omega
    have hwi2 : (p.y : Int) < (n2 : Int) := by omega
    have hwj1 : (0 : Int) ≤ (p.x : Int) := by omega
    have hwj2 : (0 : Int) ≤ (p.y : Int) := by omega
    have H82 : Hid (∀ wx, Calls Tryz.prog 134 #[.agg #[.string XX, .string YY, .string Z1, .string Z2, .int .i64 (c : Int)]] wx fun e w' => e = .returned (.agg #[.string ⟨sr.x.toArray⟩, .string ⟨sr.y.toArray⟩, .string ⟨sr.z1.toArray⟩, .string ⟨sr.z2.toArray⟩, .int .i64 (sr.c : Int)]) ∧ Mod No wx w') := fun wx => by
      have := settle_any wx ⟨x, y, z1, z2, c⟩ hst
      rw [HX.out.1, HX.out.2, hZ1, hZ2]
      exact this
    obtain ⟨S1, hS1⟩ : ∃ X, X = (⟨sr.x.toArray⟩ : ByteArray) := ⟨_, rfl⟩
    obtain ⟨S2, hS2⟩ : ∃ X, X = (⟨sr.y.toArray⟩ : ByteArray) := ⟨_, rfl⟩
    obtain ⟨S3, hS3⟩ : ∃ X, X = (⟨sr.z1.toArray⟩ : ByteArray) := ⟨_, rfl⟩
    obtain ⟨S4, hS4⟩ : ∃ X, X = (⟨sr.z2.toArray⟩ : ByteArray) := ⟨_, rfl⟩
    rw [← hS1, ← hS2, ← hS3, ← hS4] at H82
    have HSS : Hid (S1 = (⟨sr.x.toArray⟩ : ByteArray) ∧ S2 = (⟨sr.y.toArray⟩ : ByteArray) ∧ S3 = (⟨sr.z1.toArray⟩ : ByteArray) ∧ S4 = (⟨sr.z2.toArray⟩ : ByteArray)) := ⟨hS1, hS2, hS3, hS4⟩
    clear hr HCASE hz1 hz2 hst hNW ew hrw hZ1 hZ2 hS1 hS2 hS3 hS4
    go_wp2_with fail
    go_region
    all_goals
      have HW8 : Hid (Blk (w4.alloc (Obj.cells #[.string XX, .string YY, .string Z1, .string Z2, .int .i64 (c : Int)] 40)).drew w4.heap.size [.string XX, .string YY, .string Z1, .string Z2, .int .i64 (c : Int)] 40 ∧ Blk (w4.alloc (Obj.cells #[.string XX, .string YY, .string Z1, .string Z2, .int .i64 (c : Int)] 40)).drew w.heap.size [.string ⟨#[]⟩, .string ⟨#[]⟩, .string ⟨#[]⟩, .string ⟨#[]⟩, .int .i64 0] 40 ∧ Mod No w (w4.alloc (Obj.cells #[.string XX, .string YY, .string Z1, .string Z2, .int .i64 (c : Int)] 40)).drew) := ⟨heap_alloc_new w4 _, (HW4.out.2.1.alloc _).drew, (HW4.out.2.2.2.alloc _).drew⟩
      generalize (w4.alloc (Obj.cells #[.string XX, .string YY, .string Z1, .string Z2, .int .i64 (c : Int)] 40)).drew = W8 at HW8 ⊢
      clear HW4 k1 y1 y2 Y1 Y2 q0 Q0 q2 Q2
      have y0 := HW8.out.1.cell 0 rfl
      have y1 := HW8.out.1.cell 1 rfl
      have y2 := HW8.out.1.cell 2 rfl
      have y3 := HW8.out.1.cell 3 rfl
      have y4 := HW8.out.1.cell 4 rfl
      go_wp2_with fail
      refine (H82.out _).mono ?_
      rintro e w9 ⟨rfl, m9⟩
      have HW9 : Hid (Blk w9 w.heap.size [.string ⟨#[]⟩, .string ⟨#[]⟩, .string ⟨#[]⟩, .string ⟨#[]⟩, .int .i64 0] 40 ∧ Mod No w w9) := ⟨HW8.out.2.1.mod m9 (fun x => x), HW8.out.2.2.no m9⟩
      clear HW8 m9 y0 y1 y2 y3 y4 H82
      have u0 := HW9.out.1.cell 0 rfl
      have f0 := HW9.out.1.free 0
      have u1 := HW9.out.1.cell 1 rfl
      have f1 := HW9.out.1.free 1
      have u2 := HW9.out.1.cell 2 rfl
      have f2 := HW9.out.1.free 2
      have u3 := HW9.out.1.cell 3 rfl
      have f3 := HW9.out.1.free 3
      have u4 := HW9.out.1.cell 4 rfl
      have f4 := HW9.out.1.free 4
      go_wp2
      refine bodyPost_ret (v := .tuple #[.agg #[.string S1, .string S2, .string S3, .string S4, .int .i64 (sr.c : Int)], .bool true]) (by simp [results, Tryz.results104, go_sem, u0, u1, u2, u3, u4]) rfl ?_
      exact ⟨by rw [HR.out, HSS.out.1, HSS.out.2.1, HSS.out.2.2.1, HSS.out.2.2.2]; rfl, (((((HW9.out.2.setCell (a := ⟨w.heap.size, 0, none⟩) (fun e => absurd e (Nat.lt_irrefl _)) _).setCell (a := ⟨w.heap.size, 1, none⟩) (fun e => absurd e (Nat.lt_irrefl _)) _).setCell (a := ⟨w.heap.size, 2, none⟩) (fun e => absurd e (Nat.lt_irrefl _)) _).setCell (a := ⟨w.heap.size, 3, none⟩) (fun e => absurd e (Nat.lt_irrefl _)) _).setCell (a := ⟨w.heap.size, 4, none⟩) (fun e => absurd e (Nat.lt_irrefl _)) _)⟩
end Go.Proofs.YtmbapmbpnnaanabGreatDoor
