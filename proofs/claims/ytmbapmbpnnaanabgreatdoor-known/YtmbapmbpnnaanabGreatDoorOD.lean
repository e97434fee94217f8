import Derived.Test.YtmbapmbpnnaanabGreatDoorMV
import Derived.Test.YtmbapmbpnnaanabGreatDoorOA
namespace Go.Proofs.YtmbapmbpnnaanabGreatDoor
open Go.RowKit
attribute [local go_sem ↓] Go.wp_at_zero Go.wp_at_succ

theorem Tryz.info108 : (Tryz.prog.info? 108).map (fun i => (i.zero, i.size, i.bytes)) = some (some (.agg #[.string ⟨#[]⟩, .string ⟨#[]⟩, .string ⟨#[]⟩, .string ⟨#[]⟩, .string ⟨#[]⟩, .int .i64 0, .int .i64 0, .int .i64 0, .int .i64 0]), 9, 112) := by kernel_rfl

/-- A machine in its block. -/
def Mach (w : World) (m : Nat) (sts : List M2.ESt) : Prop := ∃ v, Blk w m [v] 103 ∧ Row Tx.StaE w v sts
theorem Mach.no {w w' : World} {m : Nat} {sts : List M2.ESt} (h : Mach w m sts) (hm : Mod No w w') : Mach w' m sts := by
  obtain ⟨v, h1, h2⟩ := h
  exact ⟨v, h1.mod hm (fun x => x), h2.no hm⟩

set_option maxHeartbeats 1600000 in
set_option maxRecDepth 100000 in
theorem fromStates_any (w : World) (vt : Value) (sts : List M2.ESt) (h : Row EsE w vt sts) (hl : sts.length ≤ 1000) :
    Calls Tryz.prog 36 #[vt] w fun e w' => ∃ m, e = .returned (.pointer (some ⟨m, 0, none⟩)) ∧ Mach w' m sts ∧ Mod No w w' := by
  obtain ⟨n, hn⟩ : ∃ n, n = sts.length := ⟨_, rfl⟩
  obtain ⟨ta, tc, evt, -, -⟩ := h.open hn.symm
  rw [← hn] at hl
  have HN : Hid (n = sts.length) := hn
  have HR : Hid (Row EsE w vt sts) := h
  have HV : Hid (vt = .slice ta n tc) := evt
  rw [evt]
  clear h hn evt
  obtain ⟨i0, hinf, hz0, hz1, hz2⟩ := info_parts Tryz.info108
  go_enter Tryz.func36, Tryz.ntmps36
  go_wp2_with fail
  have HW1 : Hid (Blk (w.alloc (Obj.cells #[nilS] 103)) w.heap.size [nilS] 103 ∧ Mod No w (w.alloc (Obj.cells #[nilS] 103))) := ⟨heap_alloc_new w _, (Mod.refl _ _).alloc _⟩
  generalize w.alloc (Obj.cells #[nilS] 103) = W1 at HW1 ⊢
  obtain ⟨M, hM⟩ : ∃ M, w.heap.size = M := ⟨_, rfl⟩
  have HM : Hid (w.heap.size = M) := hM
  rw [hM] at HW1 ⊢
  clear hM
  go_loopg [10] n (fun gh v10 wr => ∃ (i : Nat) (v : Value), i ≤ n ∧ gh = n - i ∧ v10 = .int .i64 (i : Int) ∧ Blk wr M [v] 103 ∧ Row Tx.StaE wr v (sts.take i) ∧ (∀ q, v.ownBlock = some q → M ≤ q) ∧ Mod No w wr)
  case atStart => exact ⟨0, nilS, by omega, by omega, rfl, HW1.out.1, Row.nil _ _, (fun q hq => by cases hq), HW1.out.2⟩
  case round =>
    clear HW1
    obtain ⟨i, v, hi, hgk, rfl, hB, hrow, hfr, hmd⟩ := hrel
    by_cases hlt : i < n
    · obtain ⟨q, hq⟩ : ∃ q, sts[i]? = some q := ⟨sts[i]'(by have := HN.out; omega), List.getElem?_eq_getElem _⟩
      obtain ⟨g, hg⟩ : ∃ g, ta = some ⟨g, 0, none⟩ := by
        obtain ⟨g2, c2, h2, -⟩ := HR.out.form (by have := HN.out; omega)
        rw [HV.out] at h2
        injection h2 with h2 _
        exact ⟨g2, h2⟩
      have hli : (sts.take i).length = i := by rw [List.length_take, ← HN.out]; omega
      obtain ⟨pa, pc, ev, -, hown⟩ := hrow.open hli
      have hown : wr.ownsRow 0 108 9 (.slice pa i pc) i ((sts.take i).flatMap Tx.StaE.f) := hown
      have hrw : Row EsE wr (.slice (some ⟨g, 0, none⟩) n tc) sts := by
        have := HR.out.no hmd
        rw [HV.out, hg] at this
        exact this
      obtain ⟨A0, A1, A2, A3, A4, A5, A6, A7, A8, hAE⟩ : ∃ A0 A1 A2 A3 A4 A5 A6 A7 A8, EsE.f q = [.string A0, .string A1, .string A2, .string A3, .string A4, .int .i64 A5, .int .i64 A6, .int .i64 A7, .int .i64 A8] := ⟨_, _, _, _, _, _, _, _, _, rfl⟩
      have c0 : wr.cell? ⟨g, i * 9, none⟩ = some (.string A0) := hrw.cell i 0 hq (by rw [hAE]; rfl)
      have c1 : wr.cell? ⟨g, i * 9 + 1, none⟩ = some (.string A1) := hrw.cell i 1 hq (by rw [hAE]; rfl)
      have c2 : wr.cell? ⟨g, i * 9 + 2, none⟩ = some (.string A2) := hrw.cell i 2 hq (by rw [hAE]; rfl)
      have c3 : wr.cell? ⟨g, i * 9 + 3, none⟩ = some (.string A3) := hrw.cell i 3 hq (by rw [hAE]; rfl)
      have c4 : wr.cell? ⟨g, i * 9 + 4, none⟩ = some (.string A4) := hrw.cell i 4 hq (by rw [hAE]; rfl)
      have c5 : wr.cell? ⟨g, i * 9 + 5, none⟩ = some (.int .i64 A5) := hrw.cell i 5 hq (by rw [hAE]; rfl)
      have c6 : wr.cell? ⟨g, i * 9 + 6, none⟩ = some (.int .i64 A6) := hrw.cell i 6 hq (by rw [hAE]; rfl)
      have c7 : wr.cell? ⟨g, i * 9 + 7, none⟩ = some (.int .i64 A7) := hrw.cell i 7 hq (by rw [hAE]; rfl)
      have c8 : wr.cell? ⟨g, i * 9 + 8, none⟩ = some (.int .i64 A8) := hrw.cell i 8 hq (by rw [hAE]; rfl)
      have hlt2 : (i : Int) < (n : Int) := by omega
      have HAE : Hid (Tx.StaE.f q = [.string A0, .string A1, .string A2, .string A3, .string A4, .int .i64 A5, .int .i64 A6, .int .i64 A7, .int .i64 A8]) := hAE
      have HI : Hid (Blk wr M [.slice pa i pc] 103 ∧ Row Tx.StaE wr v (sts.take i) ∧ v = .slice pa i pc ∧ (∀ q, v.ownBlock = some q → M ≤ q) ∧ Mod No w wr ∧ (sts.take i).length = i ∧ sts[i]? = some q ∧ wr.ownsRow 0 108 9 (.slice pa i pc) i ((sts.take i).flatMap Tx.StaE.f)) := ⟨by rw [← ev]; exact hB, hrow, ev, hfr, hmd, hli, hq, hown⟩
      subst hg
      clear hB hrow ev hfr hmd hli hq hrw hAE hown
      go_wp2_with fail
      have HW2 : Hid (Blk (wr.alloc (Obj.cells #[.string A0, .string A1, .string A2, .string A3, .string A4, .int .i64 A5, .int .i64 A6, .int .i64 A7, .int .i64 A8] 165)) wr.heap.size [.string A0, .string A1, .string A2, .string A3, .string A4, .int .i64 A5, .int .i64 A6, .int .i64 A7, .int .i64 A8] 165 ∧ Mod No wr (wr.alloc (Obj.cells #[.string A0, .string A1, .string A2, .string A3, .string A4, .int .i64 A5, .int .i64 A6, .int .i64 A7, .int .i64 A8] 165))) := ⟨heap_alloc_new wr _, (Mod.refl _ _).alloc _⟩
      generalize wr.alloc (Obj.cells #[.string A0, .string A1, .string A2, .string A3, .string A4, .int .i64 A5, .int .i64 A6, .int .i64 A7, .int .i64 A8] 165) = W2 at HW2 ⊢
      clear c0 c1 c2 c3 c4 c5 c6 c7 c8
      have b0 := HW2.out.1.cell 0 rfl
      have b1 := HW2.out.1.cell 1 rfl
      have b2 := HW2.out.1.cell 2 rfl
      have b3 := HW2.out.1.cell 3 rfl
      have b4 := HW2.out.1.cell 4 rfl
      have b5 := HW2.out.1.cell 5 rfl
      have b6 := HW2.out.1.cell 6 rfl
      have b7 := HW2.out.1.cell 7 rfl
      have b8 := HW2.out.1.cell 8 rfl
      generalize wr.heap.size = Q at b0 b1 b2 b3 b4 b5 b6 b7 b8 ⊢
      have hB2 : Blk W2 M [.slice pa i pc] 103 := HI.out.1.mod HW2.out.2 (fun x => x)
      have hrow2 : Row Tx.StaE W2 (.slice pa i pc) (sts.take i) := by
        have := HI.out.2.1.no HW2.out.2
        rw [HI.out.2.2.1] at this
        exact this
      have hown2 : W2.ownsRow 0 108 9 (.slice pa i pc) i ((sts.take i).flatMap Tx.StaE.f) := by
        have := hrow2
        unfold Row at this
        rw [HI.out.2.2.2.2.2.1] at this
        exact this
      have k0 := hB2.cell 0 rfl
      have K0 := hB2.cellA 0 rfl
      have F0 := hB2.freeA 0
      have hMl := hB2.lt
      have hSf : some M ≠ (Value.slice pa i pc).ownBlock := fun e => hB2.apart hrow2 (by decide) e.symm
      clear hB2 hrow2
      go_wp2_with fail
      go_region_law (refine step_append_lies _ (by rfl) _ _ _ (by rfl) 0 108 i0 _ 9 112 Tryz.underlying101 hinf hz0 hz1 hz2 rfl (by omega) (.slice pa i pc) i ((sts.take i).flatMap Tx.StaE.f) (by rfl) ((hown2.alloc _).drew) ⟨W2.heap.size, 0, none⟩ 1 1 [.string A0, .string A1, .string A2, .string A3, .string A4, .int .i64 A5, .int .i64 A6, .int .i64 A7, .int .i64 A8] (by rfl) (by rfl) (World.news_of_block (cs := #[.string A0, .string A1, .string A2, .string A3, .string A4, .int .i64 A5, .int .i64 A6, .int .i64 A7, .int .i64 A8]) (t := 108) (fr := (0, 0)) (heap_alloc_new W2 _)) (by intro u hu; simp at hu; rcases hu with rfl | rfl | rfl | rfl | rfl | rfl | rfl | rfl | rfl <;> rfl) (by omega) (by unfold maxLen; omega) (by omega) (by simp) (W2.heap.size + 1) (by simp) ?_; intro gg cap2 w7 hown7 hgrow hat hltt; have s0 := (hgrow.cell_far ⟨M, 0, none⟩ (by simp; omega) hSf).trans (K0 _); have s1 := (hgrow.frozen_far ⟨M, 0, none⟩ (by simp; omega) hSf).trans (F0 _))
      all_goals
        have hr7 : Row Tx.StaE w7 (.slice (some ⟨gg, 0, none⟩) (i + 1) cap2) (sts.take (i + 1)) := by
          rw [List.take_add_one, HI.out.2.2.2.2.2.2.1]
          exact app_row HI.out.2.2.2.2.2.1 HAE.out.symm hown7
        have hf7 : Fresh W2 (.slice pa i pc) (.slice (some ⟨gg, 0, none⟩) (i + 1) cap2) := app_fresh (H := W2.heap.size + 1) hat (by omega)
        have hMw : M ≤ W2.heap.size := by omega
        have hf8 : ∀ q, (Value.slice (some ⟨gg, 0, none⟩) (i + 1) cap2).ownBlock = some q → M ≤ q := fun q hq => by
          rcases hf7 q hq with e | e
          · exact HI.out.2.2.2.1 q (by rw [HI.out.2.2.1]; exact e)
          · omega
        have hm7 : Mod No w w7 := (((HI.out.2.2.2.2.1.no HW2.out.2).alloc _).drew).grown hgrow (fun g hg hlt => by
          have h1 := HI.out.2.2.2.1 g (by rw [HI.out.2.2.1]; exact hg)
          have h2 := HM.out
          exact absurd hlt (by omega))
        have hB7 : Blk w7 M [.slice pa i pc] 103 := (((HI.out.1.mod HW2.out.2 (fun x => x)).alloc _).drew).grown hgrow hSf
        have hB8 : Blk (w7.setCell ⟨M, 0, none⟩ (.slice (some ⟨gg, 0, none⟩) (i + 1) cap2)) M [.slice (some ⟨gg, 0, none⟩) (i + 1) cap2] 103 := hB7.set 0 _
        have HI8 : Hid (Blk (w7.setCell ⟨M, 0, none⟩ (.slice (some ⟨gg, 0, none⟩) (i + 1) cap2)) M [.slice (some ⟨gg, 0, none⟩) (i + 1) cap2] 103 ∧ Row Tx.StaE (w7.setCell ⟨M, 0, none⟩ (.slice (some ⟨gg, 0, none⟩) (i + 1) cap2)) (.slice (some ⟨gg, 0, none⟩) (i + 1) cap2) (sts.take (i + 1)) ∧ (∀ q, (Value.slice (some ⟨gg, 0, none⟩) (i + 1) cap2).ownBlock = some q → M ≤ q) ∧ Mod No w (w7.setCell ⟨M, 0, none⟩ (.slice (some ⟨gg, 0, none⟩) (i + 1) cap2))) := ⟨hB8, hr7.other (a := ⟨M, 0, none⟩) (hB7.apart hr7 (by decide)) _, hf8, hm7.setCell (a := ⟨M, 0, none⟩) (fun e => by have := HM.out; exact absurd e (by show ¬ M < _; omega)) _⟩
        generalize w7.setCell ⟨M, 0, none⟩ (.slice (some ⟨gg, 0, none⟩) (i + 1) cap2) = w8 at HI8 ⊢
        clear hr7 hf7 hf8 hm7 hB7 hB8 hown7 hgrow hat hltt s0 s1 k0 K0 F0 hSf hown2
        go_wp2
        go_roundg (n - (i + 1))
        case measure => omega
        case rel => exact ⟨i + 1, _, by omega, rfl, by go_num, HI8.out.1, HI8.out.2.1, HI8.out.2.2.1, HI8.out.2.2.2⟩
    · obtain rfl : i = n := by omega
      have HE : Hid (Mach wr M sts ∧ Mod No w wr) := ⟨⟨v, hB, by rw [HN.out, List.take_length] at hrow; exact hrow⟩, hmd⟩
      clear hB hrow hfr hmd
      go_wp2
      go_ret
      exact ⟨M, rfl, HE.out.1, HE.out.2⟩
end Go.Proofs.YtmbapmbpnnaanabGreatDoor
namespace Go.Proofs.YtmbapmbpnnaanabGreatDoor
open Go.RowKit
/-- A refusal's cells. -/
abbrev ref0 : List Value := [.int .i64 0, .string ⟨#[]⟩, .string ⟨#[]⟩, .string ⟨#[]⟩, .string ⟨#[]⟩, .int .i64 0]
def CPost (r : List M2.ESt × Nat × Nat) (w : World) (e : Ending) (w' : World) : Prop := Mod No w w' ∧ ((r.2.2 = 0 ∧ ∃ m, e = .returned (.tuple #[.pointer (some ⟨m, 0, none⟩), .agg #[.int .i64 0, .string ⟨#[]⟩, .string ⟨#[]⟩, .string ⟨#[]⟩, .string ⟨#[]⟩, .int .i64 0], .int .i64 0]) ∧ Mach w' m r.1) ∨ (¬ r.2.2 = 0 ∧ ∃ X Y Z1 Z2 c, e = .returned (.tuple #[.pointer none, .agg #[.int .i64 (r.2.1 : Int), .string X, .string Y, .string Z1, .string Z2, .int .i64 c], .int .i64 (r.2.2 : Int)])))

end Go.Proofs.YtmbapmbpnnaanabGreatDoor
