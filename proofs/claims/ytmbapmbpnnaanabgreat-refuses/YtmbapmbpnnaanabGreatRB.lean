import Derived.Test.YtmbapmbpnnaanabGreatSF
import Derived.Test.YtmbapmbpnnaanabGreatNF
import Derived.Test.YtmbapmbpnnaanabGreatOA
namespace Go.Proofs.YtmbapmbpnnaanabGreat.Ld
open Go.RowKit
attribute [local go_sem ↓] Go.wp_at_zero Go.wp_at_succ

theorem states19_any (w : World) (m : Nat) (v : Value) (sts : List St) (hb : Blk w m [v] 68) (hst : Sts w v sts) :
    Calls Tryz.prog 19 #[.pointer (some ⟨m, 0, none⟩)] w fun e w' => e = .returned (.int .i64 (sts.length : Int)) ∧ w' = w := by
  obtain ⟨a, cap, rfl, -, -, -⟩ := Row.any (E := Tx.StaE) (xs := sts) hst
  have c0 := hb.cell 0 rfl
  generalize sts.length = n at c0
  clear hb hst
  go_enter Tryz.func19, Tryz.ntmps19
  go_wp2
  go_ret
  exact ⟨rfl, rfl⟩

theorem resume_any (w : World) (m : Nat) (v : Value) (sts : List St) (hb : Blk w m [v] 68) (hst : Sts w v sts) (s : Int) (hs : s < 0 ∨ (sts.length : Int) ≤ s) :
    Calls Tryz.prog 10 #[.pointer (some ⟨m, 0, none⟩), .int .i64 s] w fun e w' => e = .returned (.tuple #[.pointer none, .int .i64 10]) ∧ w' = w := by
  have h19 := states19_any w m v sts hb hst
  generalize sts.length = n at h19 hs
  clear hb hst
  by_cases h0 : s < 0
  · go_enter Tryz.func10, Tryz.ntmps10
    go_wp2_with fail
    refine h19.mono ?_
    rintro e w1 ⟨rfl, rfl⟩
    clear h19
    go_wp2
    go_ret2
    exact ⟨rfl, rfl⟩
  · have h1 : (n : Int) ≤ s := by omega
    have h2 : ¬ s < (n : Int) := by omega
    clear hs
    go_enter Tryz.func10, Tryz.ntmps10
    go_wp2_with fail
    refine h19.mono ?_
    rintro e w1 ⟨rfl, rfl⟩
    clear h19
    go_wp2
    go_ret2
    exact ⟨rfl, rfl⟩

def fwS (nx : List Nat) (wi : List UInt8) (l : Nat) (ws : List (List UInt8)) : List (List UInt8) := if nx.getD l 0 = ws.length then ws ++ [wi ++ M2.letterOf l] else ws
def fwL (nx : List Nat) (wi : List UInt8) : Nat → Nat → List (List UInt8) → List (List UInt8)
  | 0, _, ws => ws
  | k + 1, l, ws => fwL nx wi k (l + 1) (fwS nx wi l ws)
def fwGo (sts : List St) : Nat → Nat → List (List UInt8) → Option (List (List UInt8))
  | 0, _, _ => none
  | f + 1, i, ws => if i < ws.length ∧ i < sts.length then
      (if (ws.getD i []).length ≤ 1000 ∧ ws.length ≤ 1000 then fwGo sts f (i + 1) (fwL (sts.getD i ⟨[], [], []⟩).nx (ws.getD i []) 4 0 ws) else none)
    else some ws
theorem fwGo_step {sts : List St} {f i : Nat} {ws r : List (List UInt8)} (h : fwGo sts (f + 1) i ws = some r) : (¬ (i < ws.length ∧ i < sts.length) ∧ ws = r) ∨ (∃ q wi, i < ws.length ∧ i < sts.length ∧ sts[i]? = some q ∧ ws[i]? = some wi ∧ wi.length ≤ 1000 ∧ ws.length ≤ 1000 ∧ fwGo sts f (i + 1) (fwL q.nx wi 4 0 ws) = some r) := by
  rw [fwGo] at h
  split at h
  · rename_i hc
    split at h
    · rename_i hb
      have e1 : sts[i]? = some (sts.getD i ⟨[], [], []⟩) := by rw [List.getD_eq_getElem?_getD, List.getElem?_eq_getElem hc.2]; rfl
      have e2 : ws[i]? = some (ws.getD i []) := by rw [List.getD_eq_getElem?_getD, List.getElem?_eq_getElem hc.1]; rfl
      exact Or.inr ⟨_, _, hc.1, hc.2, e1, e2, hb.1, hb.2, h⟩
    · cases h
  · rename_i hc
    exact Or.inl ⟨hc, Option.some.inj h⟩
theorem ix73 (nx : List Nat) (l : Nat) (hl : l < 4) (w : World) : (Instr.index 73 (.agg #[.int .i64 ((nx.getD 0 0 : Nat) : Int), .int .i64 ((nx.getD 1 0 : Nat) : Int), .int .i64 ((nx.getD 2 0 : Nat) : Int), .int .i64 ((nx.getD 3 0 : Nat) : Int)]) (.int .i64 (l : Int))).run Tryz.prog w = .ok (.int .i64 ((nx.getD l 0 : Nat) : Int)) w := by
  match l, hl with
  | 0, _ => exact ix36_0 _ _ _ _ w
  | 1, _ => exact ix36_1 _ _ _ _ w
  | 2, _ => exact ix36_2 _ _ _ _ w
  | 3, _ => exact ix36_3 _ _ _ _ w

set_option maxHeartbeats 1600000 in
set_option maxRecDepth 100000 in
theorem firstWords_any (v : Value) (sts : List St) (w : World) (hst : Sts w v sts) (h0 : 0 < sts.length) (hl : sts.length ≤ 200) {r : List (List UInt8)} (hM : fwGo sts 1000 0 [[]] = some r) :
    Calls Tryz.prog 20 #[v] w fun e w' => ∃ u, e = .returned u ∧ Row StE w' u r ∧ Mod No w w' := by
  obtain ⟨i0, hinf, hz0, hz1, hz2⟩ := info_parts YtmbapmbpnnaanabGreat.Tryz.info9
  obtain ⟨g, cap, rfl, hg, hcap⟩ := hst.form h0
  obtain ⟨n, hn⟩ : ∃ n, n = sts.length := ⟨_, rfl⟩
  have HN : Hid (n = sts.length) := hn
  have HST : Hid (Row Tx.StaE w (.slice (some ⟨g, 0, none⟩) n cap) sts) := by rw [hn]; exact hst
  have HM : Hid (fwGo sts 1000 0 [[]] = some r) := hM
  rw [← hn] at h0 hl hcap ⊢
  clear hn hst hM
  go_enter Tryz.func20, Tryz.ntmps20
  go_wp2_with fail
  have HW1 : Hid (Row StE (w.alloc (Obj.cells #[.string ⟨#[]⟩] 9)) (.slice (some ⟨w.heap.size, 0, none⟩) 1 1) [[]] ∧ Mod No w (w.alloc (Obj.cells #[.string ⟨#[]⟩] 9))) := ⟨Row.of_block (E := StE) (xs := [[]]) (heap_alloc_new w _) (by unfold maxLen; decide), (Mod.refl _ _).alloc _⟩
  generalize w.alloc (Obj.cells #[.string ⟨#[]⟩] 9) = W1 at HW1 ⊢
  go_loopg [3, 4] 1000 (fun gh u3 u4 wr => ∃ (i : Nat) (ws : List (List UInt8)), u4 = .int .i64 (i : Int) ∧ fwGo sts gh i ws = some r ∧ Row StE wr u3 ws ∧ (∀ q, u3.ownBlock = some q → w.heap.size ≤ q) ∧ Mod No w wr)
  case atStart => exact ⟨0, [[]], rfl, HM.out, HW1.out.1, (fun q hq => by cases hq; exact Nat.le_refl _), HW1.out.2⟩
  case round =>
    clear HM HW1
    obtain ⟨i, ws, rfl, hgo, hrow, hfr, hmd⟩ := hrel
    match gk, hgo with
    | 0, hgo => cases hgo
    | f + 1, hgo =>
      obtain ⟨k, hk⟩ : ∃ k, k = ws.length := ⟨_, rfl⟩
      obtain ⟨pa, pc, ev, -, -⟩ := hrow.open hk.symm
      rcases fwGo_step hgo with ⟨hni, hr⟩ | ⟨q, wi, hi1, hi2, hq, hwi, hwl, hkl, hgo2⟩
      · have HE : Hid (Row StE wr u3 r ∧ Mod No w wr) := ⟨by rw [← hr]; exact hrow, hmd⟩
        have HNI : Hid (¬ (i < k ∧ i < n)) := by show ¬ (i < k ∧ i < n); rw [hk, HN.out]; exact hni
        subst ev
        clear hgo hrow hfr hmd hni hr hk
        by_cases hc : i < k
        · have h1 : (i : Int) < (k : Int) := by omega
          have h2 : ¬ (i : Int) < (n : Int) := by have := HNI.out; omega
          clear hc
          go_wp2
          go_ret
          exact ⟨_, rfl, HE.out.1, HE.out.2⟩
        · have h1 : ¬ (i : Int) < (k : Int) := by omega
          clear hc
          go_wp2
          go_ret
          exact ⟨_, rfl, HE.out.1, HE.out.2⟩
      · have h1 : (i : Int) < (k : Int) := by omega
        have h2 : (i : Int) < (n : Int) := by have := HN.out; omega
        have hs := HST.out.no hmd
        have c5 : wr.cell? ⟨g, i * 9 + 5, none⟩ = some (.int .i64 ((q.nx.getD 0 0 : Nat) : Int)) := hs.cell i 5 hq rfl
        have c6 : wr.cell? ⟨g, i * 9 + 6, none⟩ = some (.int .i64 ((q.nx.getD 1 0 : Nat) : Int)) := hs.cell i 6 hq rfl
        have c7 : wr.cell? ⟨g, i * 9 + 7, none⟩ = some (.int .i64 ((q.nx.getD 2 0 : Nat) : Int)) := hs.cell i 7 hq rfl
        have c8 : wr.cell? ⟨g, i * 9 + 8, none⟩ = some (.int .i64 ((q.nx.getD 3 0 : Nat) : Int)) := hs.cell i 8 hq rfl
        have HI : Hid (Row StE wr u3 ws ∧ (∀ q, u3.ownBlock = some q → w.heap.size ≤ q) ∧ Mod No w wr ∧ ws[i]? = some wi ∧ ws.length ≤ 1000) := ⟨hrow, hfr, hmd, hwi, hkl⟩
        obtain ⟨nx, hnx⟩ : ∃ x, x = q.nx := ⟨_, rfl⟩
        rw [← hnx] at hgo2 c5 c6 c7 c8
        have HGO : Hid (fwGo sts f (i + 1) (fwL nx wi 4 0 ws) = some r) := hgo2
        obtain ⟨WI, hWI⟩ : ∃ X, X = (⟨wi.toArray⟩ : ByteArray) := ⟨_, rfl⟩
        have HWI : Hid (WI = (⟨wi.toArray⟩ : ByteArray)) := hWI
        have hWs : WI.size ≤ 1000 := by rw [hWI, str_size]; exact hwl
        subst ev
        clear hgo hrow hfr hmd hwi hs hq hnx hgo2 hk hWI hwl hkl
        have HIX : Hid (∀ l : Nat, l < 4 → ∀ w : World, (Instr.index 73 (.agg #[.int .i64 ((nx.getD 0 0 : Nat) : Int), .int .i64 ((nx.getD 1 0 : Nat) : Int), .int .i64 ((nx.getD 2 0 : Nat) : Int), .int .i64 ((nx.getD 3 0 : Nat) : Int)]) (.int .i64 (l : Int))).run Tryz.prog w = .ok (.int .i64 ((nx.getD l 0 : Nat) : Int)) w) := fun l hl w => ix73 nx l hl w
        generalize hN0 : nx.getD 0 0 = N0 at c5 HIX
        generalize hN1 : nx.getD 1 0 = N1 at c6 HIX
        generalize hN2 : nx.getD 2 0 = N2 at c7 HIX
        generalize hN3 : nx.getD 3 0 = N3 at c8 HIX
        clear hN0 hN1 hN2 hN3
        go_wp2_with fail
        clear c5 c6 c7 c8
        go_loopg [3, 25] 4 (fun gh u3 u25 wx => ∃ (l : Nat) (us : List (List UInt8)), l ≤ 4 ∧ gh = 4 - l ∧ u25 = .int .i64 (l : Int) ∧ fwL nx wi gh l us = fwL nx wi 4 0 ws ∧ us[i]? = some wi ∧ us.length ≤ 1000 + l ∧ Row StE wx u3 us ∧ (∀ q, u3.ownBlock = some q → w.heap.size ≤ q) ∧ Mod No w wx)
        case atStart => exact ⟨0, ws, by omega, rfl, rfl, rfl, HI.out.2.2.2.1, by have := HI.out.2.2.2.2; omega, HI.out.1, HI.out.2.1, HI.out.2.2.1⟩
        case round =>
          clear HI
          obtain ⟨l, us, hl4, hgh, rfl, hfw, hui, hul, hrow, hfr, hmd⟩ := hrel
          by_cases hlt : l < 4
          · obtain ⟨k2, hk2⟩ : ∃ k, k = us.length := ⟨_, rfl⟩
            obtain ⟨pa2, pc2, ev2, -, hown⟩ := hrow.open hk2.symm
            obtain ⟨gw, hgw⟩ : ∃ gw, pa2 = some ⟨gw, 0, none⟩ := by
              obtain ⟨g2, c2, h2, -⟩ := hrow.form (Nat.lt_of_le_of_lt (Nat.zero_le _) (List.getElem?_eq_some_iff.1 hui).1)
              rw [ev2] at h2
              injection h2 with h2 _
              exact ⟨g2, h2⟩
            subst hgw
            have hown : wr.ownsRow 0 9 1 (.slice (some ⟨gw, 0, none⟩) k2 pc2) k2 (us.flatMap StE.f) := hown
            have hrw := hrow
            rw [ev2] at hrw
            have cw : wr.cell? ⟨gw, i, none⟩ = some (.string WI) := by rw [HWI.out]; exact StE.cell hrw hui
            have CW : ∀ o, (wr.alloc o).cell? ⟨gw, i, none⟩ = some (.string WI) := fun o => by rw [HWI.out]; exact StE.cell (hrw.alloc o) hui
            have hik : (i : Int) < (k2 : Int) := by have := (List.getElem?_eq_some_iff.1 hui).1; omega
            have hli : (l : Int) < 4 := by omega
            have hix := HIX.out l hlt
            have hgk : gk = (4 - (l + 1)) + 1 := by omega
            rw [hgk] at hfw
            have HFW : Hid (fwL nx wi (4 - (l + 1)) (l + 1) (fwS nx wi l us) = fwL nx wi 4 0 ws) := hfw
            obtain ⟨X, hX⟩ : ∃ X, X = nx.getD l 0 := ⟨_, rfl⟩
            rw [← hX] at hix
            have HX : Hid (X = nx.getD l 0 ∧ k2 = us.length) := ⟨hX, hk2⟩
            have HR : Hid (Row StE wr u3 us ∧ (∀ q, u3.ownBlock = some q → w.heap.size ≤ q) ∧ Mod No w wr ∧ us[i]? = some wi ∧ u3 = .slice (some ⟨gw, 0, none⟩) k2 pc2) := ⟨hrow, hfr, hmd, hui, ev2⟩
            have hk2l : k2 ≤ 1004 := by omega
            have hk2m : k2 ≤ 1000 + l := by omega
            by_cases hXk : X = k2
            · have hxe : ((X : Int) == (k2 : Int)) = true := by rw [hXk]; simp
              have HLC : Hid ((⟨#[97, 98, 99, 100]⟩ : ByteArray).extract l (l + 1) = ⟨(M2.letterOf l).toArray⟩) := letter_cut l hlt
              rw [ev2]
              have hl1 : (l : Int) + 1 ≤ 4 := by omega
              have hl2 : (0 : Int) ≤ (l : Int) + 1 := by omega
              have hl5 : (l : Int) ≤ (l : Int) + 1 := by omega
              have hl6 : ((l : Int) + 1).toNat = l + 1 := by omega
              have hwr : IntKind.i64.wrap ((l : Int) + 1) = (l : Int) + 1 := by rw [IntKind.wrap_i64]; omega
              have hcat : ¬ 9223372036854775807 < WI.size + (min (l + 1) 4 - l) := by omega
              clear hrow hfr hmd hui ev2 hrw hfw hgk hX hk2 hul
              go_wp2_with fail
              go_region_law (refine step_append_lies _ (by rfl) _ _ _ (by rfl) 0 9 i0 _ 1 16 Tryz.underlying36 hinf hz0 hz1 hz2 rfl (by omega) (.slice (some ⟨gw, 0, none⟩) k2 pc2) k2 (us.flatMap StE.f) (by rfl) ((hown.alloc _).drew) ⟨wr.heap.size, 0, none⟩ 1 1 [.string (WI ++ (⟨#[97, 98, 99, 100]⟩ : ByteArray).extract l (l + 1))] (by rfl) (by rfl) (World.news_of_block (cs := #[.string (WI ++ (⟨#[97, 98, 99, 100]⟩ : ByteArray).extract l (l + 1))]) (t := 9) (fr := (0, 0)) (heap_alloc_new wr _)) (by intro u hu; simp at hu; rw [hu]; rfl) (by omega) (by unfold maxLen; omega) (by omega) (by simp) (wr.heap.size + 1) (by simp) ?_; intro gg cap2 w7 hown7 hgrow hat hltt)
              all_goals
                have hr7 : Row StE w7 (.slice (some ⟨gg, 0, none⟩) (k2 + 1) cap2) (us ++ [wi ++ M2.letterOf l]) := app_row HX.out.2.symm (by rw [HLC.out, HWI.out, str_cat]; rfl) hown7
                have hf7 : Fresh wr (.slice (some ⟨gw, 0, none⟩) k2 pc2) (.slice (some ⟨gg, 0, none⟩) (k2 + 1) cap2) := app_fresh (H := wr.heap.size + 1) hat (by omega)
                have hm7 : Mod No w w7 := ((HR.out.2.2.1.alloc _).drew).grown hgrow (fun g hg hlt => absurd hlt (by have := HR.out.2.1 g (by rw [HR.out.2.2.2.2]; exact hg); omega))
                have hfr7 : ∀ q, (Value.slice (some ⟨gg, 0, none⟩) (k2 + 1) cap2).ownBlock = some q → w.heap.size ≤ q := fun q hq => by
                  rcases hf7 q hq with e | e
                  · exact HR.out.2.1 q (by rw [HR.out.2.2.2.2]; exact e)
                  · exact Nat.le_trans HR.out.2.2.1.size e
                have HI7 : Hid (fwS nx wi l us = us ++ [wi ++ M2.letterOf l] ∧ (us ++ [wi ++ M2.letterOf l])[i]? = some wi ∧ Row StE w7 (.slice (some ⟨gg, 0, none⟩) (k2 + 1) cap2) (us ++ [wi ++ M2.letterOf l]) ∧ (∀ q, (Value.slice (some ⟨gg, 0, none⟩) (k2 + 1) cap2).ownBlock = some q → w.heap.size ≤ q) ∧ Mod No w w7) := ⟨by unfold fwS; rw [if_pos (by rw [← HX.out.1, hXk, HX.out.2])], by rw [List.getElem?_append_left (List.getElem?_eq_some_iff.1 HR.out.2.2.2.1).1]; exact HR.out.2.2.2.1, hr7, hfr7, hm7⟩
                clear hr7 hf7 hm7 hfr7 hown7 hgrow hat hltt hown cw CW hix
                go_wp2
                go_roundg (4 - (l + 1))
                case measure => omega
                case rel => exact ⟨l + 1, _, by omega, rfl, by go_num, by rw [← HI7.out.1]; exact HFW.out, HI7.out.2.1, by rw [List.length_append, ← HX.out.2]; simp; omega, HI7.out.2.2.1, HI7.out.2.2.2.1, HI7.out.2.2.2.2⟩
            · have hxe : ((X : Int) == (k2 : Int)) = false := by rw [beq_eq_false_iff_ne]; omega
              have HI7 : Hid (fwS nx wi l us = us ∧ us.length ≤ 1000 + l) := ⟨by unfold fwS; rw [if_neg (by rw [← HX.out.1, ← HX.out.2]; exact hXk)], hul⟩
              rw [ev2]
              clear hrow hfr hmd hui ev2 hrw hfw hgk hX hk2 hul hown cw CW
              go_wp2
              go_roundg (4 - (l + 1))
              case measure => omega
              case rel => exact ⟨l + 1, us, by omega, rfl, by go_num, by rw [← HI7.out.1]; exact HFW.out, HR.out.2.2.2.1, by have := HI7.out.2; omega, by rw [← HR.out.2.2.2.2]; exact HR.out.1, by rw [← HR.out.2.2.2.2]; exact HR.out.2.1, HR.out.2.2.1⟩
          · obtain rfl : l = 4 := by omega
            have hg0 : gk = 0 := by omega
            rw [hg0] at hfw
            have HE : Hid (us = fwL nx wi 4 0 ws ∧ Row StE wr u3 us ∧ (∀ q, u3.ownBlock = some q → w.heap.size ≤ q) ∧ Mod No w wr) := ⟨hfw, hrow, hfr, hmd⟩
            clear hfw hrow hfr hmd hui hul hg0
            go_wp2
            go_roundg f
            case measure => omega
            case rel => exact ⟨i + 1, us, by go_num, by rw [HE.out.1]; exact HGO.out, HE.out.2.1, HE.out.2.2.1, HE.out.2.2.2⟩
end Go.Proofs.YtmbapmbpnnaanabGreat.Ld
