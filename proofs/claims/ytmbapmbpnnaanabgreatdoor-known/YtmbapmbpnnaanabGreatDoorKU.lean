import Derived.Test.YtmbapmbpnnaanabGreatDoorKS
import Derived.Test.YtmbapmbpnnaanabGreatDoorKH
import Derived.Deep.LoopGhost
import Derived.Deep.CutRange
import Derived.Deep.OwnRows
namespace Go.Proofs.YtmbapmbpnnaanabGreatDoor
open Go.RowKit
attribute [local go_sem ↓] Go.wp_at_zero Go.wp_at_succ

theorem step_cons {l st last : Nat} {ps : List Mir.Place} {i nx : Nat} {q : Mir.Place} (hq : ps[i]? = some q) :
    M2.stepGo l st last (ps.drop i) i nx = (if !Mir.has st i || !(q.t.getD l false) then M2.stepGo l st last (ps.drop (i + 1)) (i + 1) nx else if Mir.has last i then none else M2.stepGo l st last (ps.drop (i + 1)) (i + 1) (nx ||| q.n)) := by
  obtain ⟨h1, rfl⟩ := List.getElem?_eq_some_iff.1 hq
  rw [List.drop_eq_getElem_cons h1, M2.stepGo]

set_option maxHeartbeats 4000000 in
set_option maxRecDepth 100000 in
theorem netStep_any (w : World) (vp : Value) (ps : List Mir.Place) (x : Mir.Piece) (st l : Nat) (hrow : Row PlE w vp ps) (hn18 : ps.length ≤ 18) (hps : PsOk ps) (hx : POk x) (hst : st < B32) (hl : l < 4) :
    Calls Tryz.prog 124 #[netV vp x, .int .i64 (st : Int), .int .i64 (l : Int)] w fun e w' => e = .returned (.int .i64 (M2.stepN ps x st l : Int)) ∧ Mod No w w' := by
  have HIS : Hid (∀ wx, Mod No w wx → Calls Tryz.prog 125 #[netV vp x, .int .i64 (st : Int)] wx fun e w' => e = .returned (.bool (decide (st = M2.hitN ps))) ∧ Mod No wx w') := fun wx hm => isHit_any _ vp ps x st (hrow.no hm) hn18
  have HHIT : Hid (∀ wx, Mod No w wx → Calls Tryz.prog 145 #[netV vp x] wx fun e w' => e = .returned (.int .u32 (M2.hitN ps : Int)) ∧ Mod No wx w') := fun wx hm => hit_any _ vp ps x (hrow.no hm) hn18
  have hh := hit_lt hn18
  have hli : (l : Int) < 4 := by omega
  have hli0 : (0 : Int) ≤ (l : Int) := by omega
  have hd1 : decide ((l : Int) < 0) = false := decide_eq_false (by omega)
  have hd2 : decide ((4 : Int) ≤ (l : Int)) = false := decide_eq_false (by omega)
  obtain ⟨a, cap, hvp, ha, hcap, -⟩ := hrow.any
  unfold M2.stepN
  generalize M2.hitN ps = H at HIS HHIT hh ⊢
  obtain ⟨n, hn⟩ : ∃ n, n = ps.length := ⟨_, rfl⟩
  rw [← hn] at hvp hcap hn18
  have HN : Hid (n = ps.length) := hn
  have HPS : Hid (PsOk ps) := hps
  have HROW : Hid (Row PlE w vp ps) := hrow
  clear hn hps hrow
  subst hvp
  obtain ⟨xe, xf, xl⟩ := x
  have hxl : xl < B32 := hx.2
  clear hx
  unfold netV at *
  dsimp only at *
  by_cases hS : st = H
  · rw [if_pos hS]
    have HIS := HIS.out _ ((Mod.refl _ _).alloc (Obj.cells #[.slice a n cap, .bool xe, .int .u32 (xf : Int), .int .u32 (xl : Int)] 136))
    rw [decide_eq_true hS] at HIS
    clear HHIT hS
    go_enter Tryz.func124, Tryz.ntmps124
    go_wp2_with fail
    refine HIS.mono ?_
    rintro e w1 ⟨rfl, m1⟩
    clear HIS
    go_wp2
    go_ret
    exact ⟨rfl, ((Mod.refl _ _).alloc _).no m1⟩
  · rw [if_neg hS]
    have HIS := HIS.out _ ((Mod.refl _ _).alloc (Obj.cells #[.slice a n cap, .bool xe, .int .u32 (xf : Int), .int .u32 (xl : Int)] 136))
    rw [decide_eq_false hS] at HIS
    clear hS
    generalize hR : M2.orHit H (M2.stepGo l st xl ps 0 0) = R
    have HR : Hid (M2.orHit H (M2.stepGo l st xl ps 0 0) = R) := hR
    clear hR
    go_enter Tryz.func124, Tryz.ntmps124
    go_wp2_with fail
    refine HIS.mono ?_
    rintro e w1 ⟨rfl, m1⟩
    clear HIS
    have hb1 : Blk w1 w.heap.size [.slice a n cap, .bool xe, .int .u32 (xf : Int), .int .u32 (xl : Int)] 136 := Blk.mod (heap_alloc_new w _) m1 (fun x => x)
    have HM1 : Hid (Mod No w w1) := ((Mod.refl _ _).alloc _).no m1
    have HB1 : Hid (Blk w1 w.heap.size [.slice a n cap, .bool xe, .int .u32 (xf : Int), .int .u32 (xl : Int)] 136) := hb1
    have k0 := hb1.cell 0 rfl
    have hs1 := hb1.lt
    clear hb1 m1
    go_wp2_with fail
    go_loopg [7, 25] n (fun g v7 v25 wr => ∃ (i nx : Nat), i ≤ n ∧ g = n - i ∧ v25 = .int .i64 (i : Int) ∧ v7 = .int .u32 (nx : Int) ∧ nx < B32 ∧ M2.stepGo l st xl (ps.drop i) i nx = M2.stepGo l st xl ps 0 0 ∧ Mod No w1 wr)
    case atStart => exact ⟨0, 0, by omega, by omega, rfl, rfl, by decide, rfl, Mod.refl _ _⟩
    case round =>
      obtain ⟨i, nx, hi, hg, rfl, rfl, hnx, hst2, hm⟩ := hrel
      have HMW : Hid (Mod No w wr) := HM1.out.no hm
      have hbk : Blk wr w.heap.size [.slice a n cap, .bool xe, .int .u32 (xf : Int), .int .u32 (xl : Int)] 136 := HB1.out.mod hm (fun x => x)
      have HBK : Hid (Blk wr w.heap.size [.slice a n cap, .bool xe, .int .u32 (xf : Int), .int .u32 (xl : Int)] 136) := hbk
      have HM : Hid (Mod No w1 wr) := hm
      have hsr := hbk.lt
      by_cases hlt : i < n
      · obtain ⟨q, hq⟩ : ∃ q, ps[i]? = some q := ⟨ps[i]'(by have := HN.out; omega), List.getElem?_eq_getElem _⟩
        have hrow := HROW.out.no HMW.out
        obtain ⟨g, rfl⟩ : ∃ g, a = some ⟨g, 0, none⟩ := by
          rcases ha with rfl | ⟨g, rfl, _⟩
          · rcases hrow.2 with ⟨h, h2⟩ | ⟨g, cap', cur, h, _⟩
            · exfalso; have := HN.out; omega
            · cases h
          · exact ⟨g, rfl⟩
        have q0 : wr.cell? ⟨g, i * 5, none⟩ = _ := hrow.cell i 0 hq rfl
        have q1 : wr.cell? ⟨g, i * 5 + 1, none⟩ = _ := hrow.cell i 1 hq rfl
        have q2 : wr.cell? ⟨g, i * 5 + 2, none⟩ = _ := hrow.cell i 2 hq rfl
        have q3 : wr.cell? ⟨g, i * 5 + 3, none⟩ = _ := hrow.cell i 3 hq rfl
        have q4 : wr.cell? ⟨g, i * 5 + 4, none⟩ = some (.int .u32 (q.n : Int)) := hrow.cell i 4 hq rfl
        have hqn := HPS.out.2 q (List.mem_of_getElem? hq)
        have hcons := step_cons (l := l) (st := st) (last := xl) (nx := nx) hq
        rw [hst2] at hcons
        have HH1 : Hid (∀ wx, Calls Tryz.prog 144 #[.int .u32 (st : Int), .int .i64 (i : Int)] wx fun e w' => e = .returned (.bool (Mir.has st i)) ∧ w' = wx) := fun wx => has_place st i hst (by omega) wx
        have HH2 : Hid (∀ wx, Calls Tryz.prog 144 #[.int .u32 (xl : Int), .int .i64 (i : Int)] wx fun e w' => e = .returned (.bool (Mir.has xl i)) ∧ w' = wx) := fun wx => has_place xl i hxl (by omega) wx
        have hor := u32_or_nat nx q.n hnx hqn
        have hor2 := or_lt32 hnx hqn
        have hilt : (i : Int) < (n : Int) := by omega
        generalize hx1 : nx ||| q.n = nx2 at hor hor2 hcons
        have hne : ¬ w.heap.size = wr.heap.size := by omega
        have Y0 := hbk.cellA 0 rfl
        have Y1 := hbk.cellA 1 rfl
        have Y2 := hbk.cellA 2 rfl
        have Y3 := hbk.cellA 3 rfl
        have hstn : st < 4294967296 := hst
        have hl4 : l = 0 ∨ l = 1 ∨ l = 2 ∨ l = 3 := by omega
        clear hd1 hd2 hli hli0 hl
        rcases hl4 with rfl | rfl | rfl | rfl
        · cases c1 : Mir.has st i with
          | false =>
            rw [c1] at HH1
            rw [c1, show (!false || !(q.t.getD 0 false)) = true from rfl, if_pos rfl] at hcons
            have HC : Hid (M2.stepGo 0 st xl (ps.drop (i + 1)) (i + 1) nx = M2.stepGo 0 st xl ps 0 0) := hcons.symm
            clear hcons c1 hst2 hq hrow HH2 hor hor2 hx1 hbk hm
            go_wp2_with fail
            refine (HH1.out _).mono ?_
            rintro e w2 ⟨rfl, rfl⟩
            clear HH1
            go_wp2
            go_roundg (n - (i + 1))
            case measure => omega
            case rel => exact ⟨i + 1, nx, by omega, rfl, by go_num, rfl, hnx, HC.out, HM.out.alloc _⟩
          | true =>
            rw [c1] at HH1
            cases c2 : q.t.getD 0 false with
            | false =>
              rw [c1, c2, show (!true || !false) = true from rfl, if_pos rfl] at hcons
              have HC : Hid (M2.stepGo 0 st xl (ps.drop (i + 1)) (i + 1) nx = M2.stepGo 0 st xl ps 0 0) := hcons.symm
              rw [c2] at q0
              clear hcons c1 c2 hst2 hq hrow HH2 hor hor2 hx1 hbk hm
              go_wp2_with fail
              refine (HH1.out _).mono ?_
              rintro e w2 ⟨rfl, rfl⟩
              clear HH1
              go_wp2
              go_roundg (n - (i + 1))
              case measure => omega
              case rel => exact ⟨i + 1, nx, by omega, rfl, by go_num, rfl, hnx, HC.out, HM.out.alloc _⟩
            | true =>
              rw [c1, c2, show (!true || !true) = false from rfl, if_neg (by simp)] at hcons
              rw [c2] at q0
              cases c3 : Mir.has xl i with
              | true =>
                rw [c3, if_pos rfl] at hcons
                rw [c3] at HH2
                have HRH : Hid (H = R) := by
                  show H = R
                  have h := HR.out
                  rw [hcons] at h
                  exact h
                have HHIT2 := HHIT.out _ (HMW.out.alloc (Obj.cells #[.bool (q.t.getD 0 false), .bool (q.t.getD 1 false), .bool (q.t.getD 2 false), .bool (q.t.getD 3 false), .int .u32 (q.n : Int)] 272))
                rw [c2] at HHIT2
                have HHN : Hid (H ≤ 262144) := hh
                clear hcons c1 c2 c3 hst2 hq hrow hor hor2 hx1 hbk hm
                go_wp2_with fail
                refine (HH1.out _).mono ?_
                rintro e w2 ⟨rfl, rfl⟩
                clear HH1
                go_wp2_with fail
                refine (HH2.out _).mono ?_
                rintro e w2 ⟨rfl, rfl⟩
                clear HH2
                go_wp2_with fail
                refine HHIT2.mono ?_
                rintro e w3 ⟨rfl, m3⟩
                clear HHIT2
                go_wp2
                go_ret
                exact ⟨wrap_ret (by rw [← HRH.out]), (HMW.out.alloc _).no m3⟩
              | false =>
                rw [c3, if_neg (by simp)] at hcons
                rw [c3] at HH2
                have HC : Hid (M2.stepGo 0 st xl (ps.drop (i + 1)) (i + 1) nx2 = M2.stepGo 0 st xl ps 0 0) := hcons.symm
                have HX2 : Hid (nx2 < B32) := hor2
                clear hcons c1 c2 c3 hst2 hq hrow hor2 hx1 hbk hm
                go_wp2_with fail
                refine (HH1.out _).mono ?_
                rintro e w2 ⟨rfl, rfl⟩
                clear HH1
                go_wp2_with fail
                refine (HH2.out _).mono ?_
                rintro e w2 ⟨rfl, rfl⟩
                clear HH2
                go_wp2
                go_roundg (n - (i + 1))
                case measure => omega
                case rel => exact ⟨i + 1, nx2, by omega, rfl, by go_num, by rw [← hor], HX2.out, HC.out, HM.out.alloc _⟩
        · cases c1 : Mir.has st i with
          | false =>
            rw [c1] at HH1
            rw [c1, show (!false || !(q.t.getD 1 false)) = true from rfl, if_pos rfl] at hcons
            have HC : Hid (M2.stepGo 1 st xl (ps.drop (i + 1)) (i + 1) nx = M2.stepGo 1 st xl ps 0 0) := hcons.symm
            clear hcons c1 hst2 hq hrow HH2 hor hor2 hx1 hbk hm
            go_wp2_with fail
            refine (HH1.out _).mono ?_
            rintro e w2 ⟨rfl, rfl⟩
            clear HH1
            go_wp2
            go_roundg (n - (i + 1))
            case measure => omega
            case rel => exact ⟨i + 1, nx, by omega, rfl, by go_num, rfl, hnx, HC.out, HM.out.alloc _⟩
          | true =>
            rw [c1] at HH1
            cases c2 : q.t.getD 1 false with
            | false =>
              rw [c1, c2, show (!true || !false) = true from rfl, if_pos rfl] at hcons
              have HC : Hid (M2.stepGo 1 st xl (ps.drop (i + 1)) (i + 1) nx = M2.stepGo 1 st xl ps 0 0) := hcons.symm
              rw [c2] at q1
              clear hcons c1 c2 hst2 hq hrow HH2 hor hor2 hx1 hbk hm
              go_wp2_with fail
              refine (HH1.out _).mono ?_
              rintro e w2 ⟨rfl, rfl⟩
              clear HH1
              go_wp2
              go_roundg (n - (i + 1))
              case measure => omega
              case rel => exact ⟨i + 1, nx, by omega, rfl, by go_num, rfl, hnx, HC.out, HM.out.alloc _⟩
            | true =>
              rw [c1, c2, show (!true || !true) = false from rfl, if_neg (by simp)] at hcons
              rw [c2] at q1
              cases c3 : Mir.has xl i with
              | true =>
                rw [c3, if_pos rfl] at hcons
                rw [c3] at HH2
                have HRH : Hid (H = R) := by
                  show H = R
                  have h := HR.out
                  rw [hcons] at h
                  exact h
                have HHIT2 := HHIT.out _ (HMW.out.alloc (Obj.cells #[.bool (q.t.getD 0 false), .bool (q.t.getD 1 false), .bool (q.t.getD 2 false), .bool (q.t.getD 3 false), .int .u32 (q.n : Int)] 272))
                rw [c2] at HHIT2
                have HHN : Hid (H ≤ 262144) := hh
                clear hcons c1 c2 c3 hst2 hq hrow hor hor2 hx1 hbk hm
                go_wp2_with fail
                refine (HH1.out _).mono ?_
                rintro e w2 ⟨rfl, rfl⟩
                clear HH1
                go_wp2_with fail
                refine (HH2.out _).mono ?_
                rintro e w2 ⟨rfl, rfl⟩
                clear HH2
                go_wp2_with fail
                refine HHIT2.mono ?_
                rintro e w3 ⟨rfl, m3⟩
                clear HHIT2
                go_wp2
                go_ret
                exact ⟨wrap_ret (by rw [← HRH.out]), (HMW.out.alloc _).no m3⟩
              | false =>
                rw [c3, if_neg (by simp)] at hcons
                rw [c3] at HH2
                have HC : Hid (M2.stepGo 1 st xl (ps.drop (i + 1)) (i + 1) nx2 = M2.stepGo 1 st xl ps 0 0) := hcons.symm
                have HX2 : Hid (nx2 < B32) := hor2
                clear hcons c1 c2 c3 hst2 hq hrow hor2 hx1 hbk hm
                go_wp2_with fail
                refine (HH1.out _).mono ?_
                rintro e w2 ⟨rfl, rfl⟩
                clear HH1
                go_wp2_with fail
                refine (HH2.out _).mono ?_
                rintro e w2 ⟨rfl, rfl⟩
                clear HH2
                go_wp2
                go_roundg (n - (i + 1))
                case measure => omega
                case rel => exact ⟨i + 1, nx2, by omega, rfl, by go_num, by rw [← hor], HX2.out, HC.out, HM.out.alloc _⟩
        · cases c1 : Mir.has st i with
          | false =>
            rw [c1] at HH1
            rw [c1, show (!false || !(q.t.getD 2 false)) = true from rfl, if_pos rfl] at hcons
            have HC : Hid (M2.stepGo 2 st xl (ps.drop (i + 1)) (i + 1) nx = M2.stepGo 2 st xl ps 0 0) := hcons.symm
            clear hcons c1 hst2 hq hrow HH2 hor hor2 hx1 hbk hm
            go_wp2_with fail
            refine (HH1.out _).mono ?_
            rintro e w2 ⟨rfl, rfl⟩
            clear HH1
            go_wp2
            go_roundg (n - (i + 1))
            case measure => omega
            case rel => exact ⟨i + 1, nx, by omega, rfl, by go_num, rfl, hnx, HC.out, HM.out.alloc _⟩
          | true =>
            rw [c1] at HH1
            cases c2 : q.t.getD 2 false with
            | false =>
              rw [c1, c2, show (!true || !false) = true from rfl, if_pos rfl] at hcons
              have HC : Hid (M2.stepGo 2 st xl (ps.drop (i + 1)) (i + 1) nx = M2.stepGo 2 st xl ps 0 0) := hcons.symm
              rw [c2] at q2
              clear hcons c1 c2 hst2 hq hrow HH2 hor hor2 hx1 hbk hm
              go_wp2_with fail
              refine (HH1.out _).mono ?_
              rintro e w2 ⟨rfl, rfl⟩
              clear HH1
              go_wp2
              go_roundg (n - (i + 1))
              case measure => omega
              case rel => exact ⟨i + 1, nx, by omega, rfl, by go_num, rfl, hnx, HC.out, HM.out.alloc _⟩
            | true =>
              rw [c1, c2, show (!true || !true) = false from rfl, if_neg (by simp)] at hcons
              rw [c2] at q2
              cases c3 : Mir.has xl i with
              | true =>
                rw [c3, if_pos rfl] at hcons
                rw [c3] at HH2
                have HRH : Hid (H = R) := by
                  show H = R
                  have h := HR.out
                  rw [hcons] at h
                  exact h
                have HHIT2 := HHIT.out _ (HMW.out.alloc (Obj.cells #[.bool (q.t.getD 0 false), .bool (q.t.getD 1 false), .bool (q.t.getD 2 false), .bool (q.t.getD 3 false), .int .u32 (q.n : Int)] 272))
                rw [c2] at HHIT2
                have HHN : Hid (H ≤ 262144) := hh
                clear hcons c1 c2 c3 hst2 hq hrow hor hor2 hx1 hbk hm
                go_wp2_with fail
                refine (HH1.out _).mono ?_
                rintro e w2 ⟨rfl, rfl⟩
                clear HH1
                go_wp2_with fail
                refine (HH2.out _).mono ?_
                rintro e w2 ⟨rfl, rfl⟩
                clear HH2
                go_wp2_with fail
                refine HHIT2.mono ?_
                rintro e w3 ⟨rfl, m3⟩
                clear HHIT2
                go_wp2
                go_ret
                exact ⟨wrap_ret (by rw [← HRH.out]), (HMW.out.alloc _).no m3⟩
              | false =>
                rw [c3, if_neg (by simp)] at hcons
                rw [c3] at HH2
                have HC : Hid (M2.stepGo 2 st xl (ps.drop (i + 1)) (i + 1) nx2 = M2.stepGo 2 st xl ps 0 0) := hcons.symm
                have HX2 : Hid (nx2 < B32) := hor2
                clear hcons c1 c2 c3 hst2 hq hrow hor2 hx1 hbk hm
                go_wp2_with fail
                refine (HH1.out _).mono ?_
                rintro e w2 ⟨rfl, rfl⟩
                clear HH1
                go_wp2_with fail
                refine (HH2.out _).mono ?_
                rintro e w2 ⟨rfl, rfl⟩
                clear HH2
                go_wp2
                go_roundg (n - (i + 1))
                case measure => omega
                case rel => exact ⟨i + 1, nx2, by omega, rfl, by go_num, by rw [← hor], HX2.out, HC.out, HM.out.alloc _⟩
        · cases c1 : Mir.has st i with
          | false =>
            rw [c1] at HH1
            rw [c1, show (!false || !(q.t.getD 3 false)) = true from rfl, if_pos rfl] at hcons
            have HC : Hid (M2.stepGo 3 st xl (ps.drop (i + 1)) (i + 1) nx = M2.stepGo 3 st xl ps 0 0) := hcons.symm
            clear hcons c1 hst2 hq hrow HH2 hor hor2 hx1 hbk hm
            go_wp2_with fail
            refine (HH1.out _).mono ?_
            rintro e w2 ⟨rfl, rfl⟩
            clear HH1
            go_wp2
            go_roundg (n - (i + 1))
            case measure => omega
            case rel => exact ⟨i + 1, nx, by omega, rfl, by go_num, rfl, hnx, HC.out, HM.out.alloc _⟩
          | true =>
            rw [c1] at HH1
            cases c2 : q.t.getD 3 false with
            | false =>
              rw [c1, c2, show (!true || !false) = true from rfl, if_pos rfl] at hcons
              have HC : Hid (M2.stepGo 3 st xl (ps.drop (i + 1)) (i + 1) nx = M2.stepGo 3 st xl ps 0 0) := hcons.symm
              rw [c2] at q3
              clear hcons c1 c2 hst2 hq hrow HH2 hor hor2 hx1 hbk hm
              go_wp2_with fail
              refine (HH1.out _).mono ?_
              rintro e w2 ⟨rfl, rfl⟩
              clear HH1
              go_wp2
              go_roundg (n - (i + 1))
              case measure => omega
              case rel => exact ⟨i + 1, nx, by omega, rfl, by go_num, rfl, hnx, HC.out, HM.out.alloc _⟩
            | true =>
              rw [c1, c2, show (!true || !true) = false from rfl, if_neg (by simp)] at hcons
              rw [c2] at q3
              cases c3 : Mir.has xl i with
              | true =>
                rw [c3, if_pos rfl] at hcons
                rw [c3] at HH2
                have HRH : Hid (H = R) := by
                  show H = R
                  have h := HR.out
                  rw [hcons] at h
                  exact h
                have HHIT2 := HHIT.out _ (HMW.out.alloc (Obj.cells #[.bool (q.t.getD 0 false), .bool (q.t.getD 1 false), .bool (q.t.getD 2 false), .bool (q.t.getD 3 false), .int .u32 (q.n : Int)] 272))
                rw [c2] at HHIT2
                have HHN : Hid (H ≤ 262144) := hh
                clear hcons c1 c2 c3 hst2 hq hrow hor hor2 hx1 hbk hm
                go_wp2_with fail
                refine (HH1.out _).mono ?_
                rintro e w2 ⟨rfl, rfl⟩
                clear HH1
                go_wp2_with fail
                refine (HH2.out _).mono ?_
                rintro e w2 ⟨rfl, rfl⟩
                clear HH2
                go_wp2_with fail
                refine HHIT2.mono ?_
                rintro e w3 ⟨rfl, m3⟩
                clear HHIT2
                go_wp2
                go_ret
                exact ⟨wrap_ret (by rw [← HRH.out]), (HMW.out.alloc _).no m3⟩
              | false =>
                rw [c3, if_neg (by simp)] at hcons
                rw [c3] at HH2
                have HC : Hid (M2.stepGo 3 st xl (ps.drop (i + 1)) (i + 1) nx2 = M2.stepGo 3 st xl ps 0 0) := hcons.symm
                have HX2 : Hid (nx2 < B32) := hor2
                clear hcons c1 c2 c3 hst2 hq hrow hor2 hx1 hbk hm
                go_wp2_with fail
                refine (HH1.out _).mono ?_
                rintro e w2 ⟨rfl, rfl⟩
                clear HH1
                go_wp2_with fail
                refine (HH2.out _).mono ?_
                rintro e w2 ⟨rfl, rfl⟩
                clear HH2
                go_wp2
                go_roundg (n - (i + 1))
                case measure => omega
                case rel => exact ⟨i + 1, nx2, by omega, rfl, by go_num, by rw [← hor], HX2.out, HC.out, HM.out.alloc _⟩
      · obtain rfl : i = n := by omega
        have HR2 : Hid (nx = R) := by
          show nx = R
          have h := HR.out
          rw [← hst2, List.drop_of_length_le (by have := HN.out; omega), M2.stepGo] at h
          exact h
        have hnxi : nx < 4294967296 := hnx
        clear hst2 hm hbk hg hi hlt hcap ha hh hnx hd1 hd2 hli hli0 hst hxl hl hn18 hs1 hsr k0
        go_wp2
        go_ret
        exact ⟨wrap_ret (by rw [← HR2.out]), HMW.out⟩
end Go.Proofs.YtmbapmbpnnaanabGreatDoor
namespace Go.Proofs.YtmbapmbpnnaanabGreatDoor
open Go.RowKit
attribute [local go_sem ↓] Go.wp_at_zero Go.wp_at_succ

def InE : Enc Nat := ⟨3, 1, fun x => [.int .i64 (x : Int)], fun _ => rfl⟩
theorem Tryz.info3 : (Tryz.prog.info? 3).map (fun i => (i.zero, i.size, i.bytes)) = some (some (.int .i64 0), 1, 8) := by kernel_rfl
theorem InE.cell {w : World} {g n cap : Nat} {xs : List Nat} (h : Row InE w (.slice (some ⟨g, 0, none⟩) n cap) xs) {i x : Nat} (hx : xs[i]? = some x) : w.cell? ⟨g, i, none⟩ = some (.int .i64 (x : Int)) := by
  have := h.cell i 0 hx (u := .int .i64 (x : Int)) rfl
  have e : i * InE.c + 0 = i := by show i * 1 + 0 = i; omega
  rwa [e] at this
theorem InE.put {w : World} {g n cap : Nat} {xs : List Nat} (h : Row InE w (.slice (some ⟨g, 0, none⟩) n cap) xs) {i x : Nat} (y : Nat) (hx : xs[i]? = some x) : Row InE (w.setCell ⟨g, i, none⟩ (.int .i64 (y : Int))) (.slice (some ⟨g, 0, none⟩) n cap) (xs.set i y) := by
  have := h.put i 0 hx (x' := y) (u := .int .i64 (y : Int)) (by decide) rfl
  have e : i * InE.c + 0 = i := by show i * 1 + 0 = i; omega
  rwa [e] at this

/-- A meeting in block b: the states met, the numbers. -/
structure MeetI (w : World) (b : Nat) (vm vn : Value) (m : M2.Meet) : Prop where
  blk : Blk w b [vm, vn] 248
  met : Row InE w vm m.met
  num : Row InE w vn m.nums
  nmb : vm.ownBlock ≠ some b
  nnb : vn.ownBlock ≠ some b
  nmn : ∀ g, vm.ownBlock = some g → vn.ownBlock ≠ some g
def Mt (b : Nat) (vm vn : Value) : Nat → Prop := fun k => k = b ∨ vm.ownBlock = some k ∨ vn.ownBlock = some k

set_option maxHeartbeats 4000000 in
set_option maxRecDepth 100000 in
theorem number_any' (w : World) (b : Nat) (vm vn : Value) (m m' : M2.Meet) (x k : Nat) (h : MeetI w b vm vn m) (hM : M2.numberM m x = some (k, m')) (hml : m.met.length ≤ 2000000) (hnl : m.nums.length ≤ 300000) (hv : ∀ u ∈ m.nums, u ≤ 2000000) :
    Calls Tryz.prog 122 #[.pointer (some ⟨b, 0, none⟩), .int .i64 (x : Int)] w fun e w' => e = .returned (.int .i64 (k : Int)) ∧ ∃ vm', MeetI w' b vm' vn m' ∧ Fresh w vm vm' ∧ Mod (Mt b vm vn) w w' := by
  obtain ⟨i0, hinf, hz0, hz1, hz2⟩ := info_parts Tryz.info3
  unfold M2.numberM at hM
  cases hu : m.nums[x]? with
  | none => rw [hu] at hM; cases hM
  | some u =>
    rw [hu] at hM
    have hxl : x < m.nums.length := (List.getElem?_eq_some_iff.1 hu).1
    have hub := hv u (List.mem_of_getElem? hu)
    obtain ⟨gn, ncap, hvn, hgn, hncap⟩ := h.num.form (by omega)
    obtain ⟨n, hn⟩ : ∃ n, n = m.nums.length := ⟨_, rfl⟩
    rw [← hn] at hvn hncap hxl hnl
    subst hvn
    have c1 := h.blk.cell 1 rfl
    have f0 := h.blk.free 0
    have hc := InE.cell h.num hu
    have fx := h.num.free x
    have hxi : (x : Int) < (n : Int) := by omega
    have hxi0 : (0 : Int) ≤ (x : Int) := by omega
    have hd1 : decide ((x : Int) < 0) = false := decide_eq_false (by omega)
    have HI : Hid (MeetI w b vm (.slice (some ⟨gn, 0, none⟩) n ncap) m) := h
    have hgnb : gn ≠ b := fun e => h.nnb (by rw [e]; rfl)
    match u, hM with
    | 0, hM =>
      simp only [Option.some.injEq, Prod.mk.injEq] at hM
      obtain ⟨rfl, rfl⟩ := hM
      obtain ⟨ma, mcap, hvm, -, -, -⟩ := h.met.any
      generalize hmn : m.met.length = mn at hvm hml ⊢
      have HMN : Hid (m.met.length = mn) := hmn
      subst hvm
      have c0 := h.blk.cell 0 rfl
      have hown : w.ownsRow 0 3 1 (.slice ma mn mcap) mn (m.met.flatMap InE.f) := by have := h.met; unfold Row at this; rw [hmn] at this; exact this
      have hlt := h.blk.lt
      have hbne : some b ≠ (Value.slice ma mn mcap).ownBlock := fun e => h.nmb e.symm
      have hgne : some gn ≠ (Value.slice ma mn mcap).ownBlock := fun e => h.nmn gn e.symm rfl
      have HNU : Hid (m.nums[x]? = some 0) := hu
      clear hmn hu h hv hub
      go_enter Tryz.func122, Tryz.ntmps122
      go_wp2_with (at_builtin; refine wpList_append_lies _ rfl _ _ 99 rfl 0 3 i0 _ 1 8 Tryz.underlying99 hinf hz0 hz1 hz2 rfl (by omega) (.slice ma mn mcap) mn (m.met.flatMap InE.f) rfl (hown.alloc _) ⟨w.heap.size, 0, none⟩ 1 1 [.int .i64 (x : Int)] rfl rfl ?c1 ?c2 (by omega) (by unfold maxLen; omega) (by omega) (by simp) (w.heap.size + 1) (by simp) ?_)
      case c1 => exact World.news_of_block (cs := #[.int .i64 (x : Int)]) (t := 3) (fr := (0, 0)) (heap_alloc_new w _)
      case c2 => intro u hu; simp at hu; rw [hu]; rfl
      intro gg cap2 w1 hown1 hgrow hat hltt
      have HR : Hid (Row InE w1 (.slice (some ⟨gg, 0, none⟩) (mn + 1) cap2) (m.met ++ [x])) := by
        refine Row.snoc ?_
        rw [HMN.out]; exact hown1
      have hB1 : Blk w1 b [.slice ma mn mcap, .slice (some ⟨gn, 0, none⟩) n ncap] 248 := (HI.out.blk.alloc _).grown hgrow hbne
      have hN1 : Row InE w1 (.slice (some ⟨gn, 0, none⟩) n ncap) m.nums := (HI.out.num.alloc _).grown hgrow (Or.inr hgne)
      have HM1 : Hid (Mod (Mt b (.slice ma mn mcap) (.slice (some ⟨gn, 0, none⟩) n ncap)) w w1) := ((Mod.refl _ _).alloc _).grown hgrow (fun g hg _ => Or.inr (Or.inl hg))
      have hgb : gg ≠ b := by
        rcases hat with h | h
        · exact fun e => hbne (by rw [h, e])
        · omega
      have hggn : gg ≠ gn := by
        rcases hat with h | h
        · exact fun e => hgne (by rw [h, e])
        · omega
      have HFR : Hid (Fresh w (.slice ma mn mcap) (.slice (some ⟨gg, 0, none⟩) (mn + 1) cap2)) := by
        intro g hg
        cases hg
        rcases hat with h | h
        · exact Or.inl h
        · exact Or.inr (by show w.heap.size ≤ gg; omega)
      have e0 := hB1.cell 0 rfl
      have e1 := hB1.free 0
      obtain ⟨v2, hv2⟩ : ∃ v2, v2 = Value.slice (some ⟨gg, 0, none⟩) (mn + 1) cap2 := ⟨_, rfl⟩
      rw [← hv2] at HR HFR
      have HVV : Hid (v2 = Value.slice (some ⟨gg, 0, none⟩) (mn + 1) cap2) := hv2
      have HV2 : Hid (v2.ownBlock = some gg) := by show v2.ownBlock = some gg; rw [hv2]; rfl
      have HB2 : Hid (Blk (w1.setCell ⟨b, 0, none⟩ v2) b [v2, .slice (some ⟨gn, 0, none⟩) n ncap] 248) := hB1.set 0 v2
      have HN2 : Hid (Row InE (w1.setCell ⟨b, 0, none⟩ v2) (.slice (some ⟨gn, 0, none⟩) n ncap) m.nums) := hN1.other (a := ⟨b, 0, none⟩) (fun e => hgnb (Option.some.inj e)) v2
      have HR2 : Hid (Row InE (w1.setCell ⟨b, 0, none⟩ v2) v2 (m.met ++ [x])) := HR.out.other (a := ⟨b, 0, none⟩) (by rw [HV2.out]; intro e; exact hgb (Option.some.inj e)) v2
      have HM2 : Hid (Mod (Mt b (.slice ma mn mcap) (.slice (some ⟨gn, 0, none⟩) n ncap)) w (w1.setCell ⟨b, 0, none⟩ v2)) := HM1.out.setCell (a := ⟨b, 0, none⟩) (fun _ => Or.inl rfl) v2
      generalize hw2 : w1.setCell ⟨b, 0, none⟩ v2 = w2 at HB2 HN2 HR2 HM2
      clear hown1 hgrow hat hltt hown c0 c1 f0 hc fx hB1 hN1 hinf hz0 hz1 hz2
      rw [hv2] at hw2
      clear hv2
      go_wp2
      rw [HVV.out] at HB2
      have d0 := HB2.out.cell 0 rfl
      have d1 := HB2.out.cell 1 rfl
      have dx := InE.cell HN2.out HNU.out
      have fdx := HN2.out.free x
      clear hw2 e0 e1
      have hbgn : ¬ b = gn := fun e => hgnb e.symm
      go_region
      all_goals
        go_wp2
        go_ret
        refine ⟨wrap_ret (by omega), v2, ⟨?_, ?_, ?_, ?_, HI.out.nnb, ?_⟩, HFR.out, ?_⟩
        · rw [HVV.out]; exact (HB2.out.other (a := ⟨gn, x, none⟩) (fun e => hbgn e) _).drew
        · exact (HR2.out.other (a := ⟨gn, x, none⟩) (by rw [HV2.out]; intro e; exact hggn (Option.some.inj e)) _).drew
        · have := InE.put HN2.out (mn + 1) HNU.out
          exact this.drew
        · rw [HV2.out]; intro e; exact hgb (Option.some.inj e)
        · intro g hg hg2
          rw [HV2.out] at hg
          cases hg
          exact hggn (Option.some.inj hg2).symm
        · exact (HM2.out.setCell (a := ⟨gn, x, none⟩) (fun _ => Or.inr (Or.inr rfl)) _).drew
    | u + 1, hM =>
      simp only [Option.some.injEq, Prod.mk.injEq] at hM
      obtain ⟨rfl, rfl⟩ := hM
      have hne : (((u : Int) + 1) == 0) = false := by rw [beq_eq_false_iff_ne]; omega
      obtain ⟨ma, mcap, hvm, -, -, -⟩ := h.met.any
      clear hu h hv hvm
      go_enter Tryz.func122, Tryz.ntmps122
      go_wp2
      go_ret
      exact ⟨wrap_ret (by omega), vm, HI.out, Fresh.refl _ _, Mod.refl _ _⟩

def R4E : Enc Mir.R4 := ⟨106, 4, fun r => [.int .i64 (r.a : Int), .int .i64 (r.b : Int), .int .i64 (r.c : Int), .int .i64 (r.d : Int)], fun _ => rfl⟩
def BoE : Enc Bool := ⟨4, 1, fun x => [.bool x], fun _ => rfl⟩
theorem Tryz.info106 : (Tryz.prog.info? 106).map (fun i => (i.zero, i.size, i.bytes)) = some (some (.agg #[.int .i64 0, .int .i64 0, .int .i64 0, .int .i64 0]), 4, 32) := by kernel_rfl
theorem Tryz.info4 : (Tryz.prog.info? 4).map (fun i => (i.zero, i.size, i.bytes)) = some (some (.bool false), 1, 1) := by kernel_rfl
theorem Blk.apart {α : Type} {E : Enc α} {w : World} {v : Value} {xs : List α} {b : Nat} {cs : List Value} {T : Nat} (hb : Blk w b cs T) (h : Row E w v xs) (ht : T ≠ E.T) : v.ownBlock ≠ some b := by
  intro hg
  have hb' : w.heap[b]? = some (.cells cs.toArray T (0, 0)) := hb
  rcases h.2 with ⟨rfl, _⟩ | ⟨g1, cap, cur, rfl, _, hh, _⟩
  · cases hg
  · have e : g1 = b := Option.some.inj hg
    rw [e, hb'] at hh
    injection hh with e
    injection e with _ e2
    exact ht e2
theorem Blk.diff {w : World} {b b' : Nat} {cs cs' : List Value} {T T' : Nat} (h : Blk w b cs T) (h' : Blk w b' cs' T') (ht : T ≠ T') : b ≠ b' := by
  rintro rfl
  have h1 : w.heap[b]? = some (.cells cs.toArray T (0, 0)) := h
  have h2 : w.heap[b]? = some (.cells cs'.toArray T' (0, 0)) := h'
  rw [h1] at h2
  injection h2 with e
  injection e with _ e2
  exact ht e2
/-- Only memory of one's own is changed. -/
theorem Mod.own {S : Nat → Prop} {w w1 w2 : World} (h : Mod No w w1) (h2 : Mod S w1 w2) (hs : ∀ k, S k → w.heap.size ≤ k) : Mod No w w2 := h.trans' h2 fun k hk hS => by have := hs k hS; omega
theorem ints_zero (n : Nat) : (List.replicate n (0 : Nat)).flatMap InE.f = List.replicate n (.int .i64 0) := by
  induction n with
  | zero => rfl
  | succ n ih => rw [List.replicate_succ, List.flatMap_cons, ih, List.replicate_succ]; rfl
theorem make_ints (n : Nat) (hn : n ≤ 1000000) (w : World) : (Instr.makeSlice 99 (.int .i64 (n : Int)) (.int .i64 (n : Int))).run Tryz.prog w = .ok (.slice (some ⟨w.heap.size, 0, none⟩) n n) (w.alloc (.cells (List.replicate n (.int .i64 0)).toArray 3)) := by
  have e : madeCells #[.int .i64 0] n = (List.replicate n (.int .i64 0)).toArray := by
    apply Array.ext'
    simp [madeCells, Nat.mod_one]
    exact List.eq_replicate_iff.2 ⟨by simp, fun b hb => by obtain ⟨_, _, rfl⟩ := List.mem_map.1 hb; rfl⟩
  rw [← e]
  exact run_make_row' 99 3 (.int .i64 0) 8 Tryz.underlying99 Tryz.info3 rfl .i64 .i64 n (by omega) (by omega) w
end Go.Proofs.YtmbapmbpnnaanabGreatDoor
