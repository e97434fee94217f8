import Derived.Test.YtmbapmbpnnaanabGreatDoorKY
namespace Go.Proofs.YtmbapmbpnnaanabGreatDoor
open Go.RowKit
attribute [local go_sem ↓] Go.wp_at_zero Go.wp_at_succ

theorem new4 (w : World) (A B C D : Obj) : ((((w.alloc A).alloc B).alloc C).alloc D).heap[w.heap.size]? = some A ∧ ((((w.alloc A).alloc B).alloc C).alloc D).heap[w.heap.size + 1]? = some B ∧ ((((w.alloc A).alloc B).alloc C).alloc D).heap[w.heap.size + 1 + 1]? = some C ∧ ((((w.alloc A).alloc B).alloc C).alloc D).heap[w.heap.size + 1 + 1 + 1]? = some D := by
  refine ⟨?_, ?_, ?_, ?_⟩
  · rw [Below.heap_alloc _ _ _ (by simp; try omega)]; exact new3_0 w A B C
  · rw [Below.heap_alloc _ _ _ (by simp; try omega)]; exact new3_1 w A B C
  · rw [Below.heap_alloc _ _ _ (by simp; try omega)]; exact new3_2 w A B C
  · simpa using heap_alloc_new (((w.alloc A).alloc B).alloc C) D

set_option maxHeartbeats 4000000 in
set_option maxRecDepth 100000 in
theorem together_any (w : World) (vx vh vo : Value) (cn : Nat) (a : M2.Auto) (of : List Nat) (hx : Row R4E w vx a.nx) (hh : Row BoE w vh a.hit) (ho : Row InE w vo of) (hl1 : a.nx.length = of.length) (hl2 : a.hit.length = of.length) (hl : of.length ≤ 300000) {b : M2.Auto} (hM : M2.togGo of of a.nx a.hit ⟨[], []⟩ = some b) :
    Calls Tryz.prog 89 #[.agg #[vx, vh], .agg #[vo, .int .i64 (cn : Int)]] w fun e w' => AutoPost b w e w' := by
  obtain ⟨xa, xcap, hvx, hxa, -, -⟩ := hx.any
  obtain ⟨ha, hcap, hvh, hha, -, -⟩ := hh.any
  obtain ⟨oa, ocap, hvo, hoa, -, -⟩ := ho.any
  rw [hl1] at hvx
  rw [hl2] at hvh
  obtain ⟨n, hn⟩ : ∃ n, n = of.length := ⟨_, rfl⟩
  rw [← hn] at hvx hvh hvo hl hl1 hl2
  have HX : Hid (Row R4E w vx a.nx) := hx
  have HH : Hid (Row BoE w vh a.hit) := hh
  have HO : Hid (Row InE w vo of) := ho
  have HL1 : Hid (a.nx.length = n) := hl1
  have HL2 : Hid (a.hit.length = n) := hl2
  have HN : Hid (n = of.length) := hn
  have HM : Hid (M2.togGo of of a.nx a.hit ⟨[], []⟩ = some b) := hM
  have HVX : Hid (vx = .slice xa n xcap) := hvx
  have HVH : Hid (vh = .slice ha n hcap) := hvh
  have HVO : Hid (vo = .slice oa n ocap) := hvo
  clear hx hh ho hl1 hl2 hn hM
  have HI0 : Hid (∀ A B C D, A = Obj.cells #[vx, vh] 142 → B = Obj.cells #[vo, .int .i64 (cn : Int)] 198 → C = Obj.cells #[.slice none 0 0, .slice none 0 0] 142 → D = Obj.cells #[.slice none 0 0, .slice none 0 0] 142 → TI w w.heap.size vx vh vo cn (.slice none 0 0) (.slice none 0 0) ⟨[], []⟩ ((((w.alloc A).alloc B).alloc C).alloc D)) := by
    intro A B C D hA hB hC hD
    have h4 := new4 w A B C D
    have hmd : Mod No w ((((w.alloc A).alloc B).alloc C).alloc D) := ((((Mod.refl _ _).alloc _).alloc _).alloc _).alloc _
    generalize ((((w.alloc A).alloc B).alloc C).alloc D) = W at h4 hmd ⊢
    subst hA hB hC hD
    exact ⟨h4.1, h4.2.1, h4.2.2.1, h4.2.2.2, Row.nil _ _, Row.nil _ _, hmd, (fun g hg => by cases hg), (fun g hg => by cases hg), Nat.le_refl _⟩
  rw [HVX.out, HVH.out, HVO.out]
  rw [HVX.out, HVH.out, HVO.out] at HI0
  clear hvx hvh hvo
  go_enter Tryz.func89, Tryz.ntmps89
  go_wp2_with fail
  rw [← HVX.out, ← HVH.out, ← HVO.out] at HI0
  go_loopg [14] n (fun gh v14 wr => ∃ (i : Nat) (lx lh : Value) (au : M2.Auto), i ≤ n ∧ gh = n - i ∧ v14 = .int .i64 (i : Int) ∧ TI w w.heap.size vx vh vo cn lx lh au wr ∧ au.nx.length ≤ i ∧ au.nx.length = au.hit.length ∧ M2.togGo of (of.drop i) (a.nx.drop i) (a.hit.drop i) au = some b)
  case atStart => exact ⟨0, _, _, ⟨[], []⟩, by omega, by omega, rfl, by have h := HI0.out _ _ _ _ rfl rfl rfl rfl; rw [HVX.out, HVH.out, HVO.out] at h ⊢; exact h, by simp, rfl, HM.out⟩
  case round =>
    obtain ⟨i, lx, lh, au, hi, hgk, rfl, hI, hal, hah, htg⟩ := hrel
    obtain ⟨ya, ycap, hlx, -, -, -⟩ := hI.nx.any
    obtain ⟨za, zcap, hlh, -, -, -⟩ := hI.hit.any
    rw [← hah] at hlh
    generalize hln : au.nx.length = ln at hlx hlh hal
    have HLN : Hid (au.nx.length = ln ∧ au.hit.length = ln) := ⟨hln, by omega⟩
    have HLX : Hid (lx = .slice ya ln ycap) := hlx
    have HLH : Hid (lh = .slice za ln zcap) := hlh
    have HI : Hid (TI w w.heap.size vx vh vo cn lx lh au wr) := hI
    have a0 := hI.boxA.cell 0 rfl
    have a1 := hI.boxA.cell 1 rfl
    have b0 := hI.boxC.cell 0 rfl
    have d0 := hI.aut.cell 0 rfl
    have d1 := hI.aut.cell 1 rfl
    rw [HVX.out] at a0
    rw [HVH.out] at a1
    rw [HVO.out] at b0
    rw [hlx] at d0
    rw [hlh] at d1
    by_cases hlt : i < n
    · obtain ⟨x, hxi⟩ : ∃ x, of[i]? = some x := ⟨of[i]'(by have := HN.out; omega), List.getElem?_eq_getElem _⟩
      obtain ⟨r, hri⟩ : ∃ r, a.nx[i]? = some r := ⟨a.nx[i]'(by have := HL1.out; omega), List.getElem?_eq_getElem _⟩
      obtain ⟨hb, hbi⟩ : ∃ hb, a.hit[i]? = some hb := ⟨a.hit[i]'(by have := HL2.out; omega), List.getElem?_eq_getElem _⟩
      have e1 : of.drop i = x :: of.drop (i + 1) := by obtain ⟨h1, rfl⟩ := List.getElem?_eq_some_iff.1 hxi; exact List.drop_eq_getElem_cons h1
      have e2 : a.nx.drop i = r :: a.nx.drop (i + 1) := by obtain ⟨h1, rfl⟩ := List.getElem?_eq_some_iff.1 hri; exact List.drop_eq_getElem_cons h1
      have e3 : a.hit.drop i = hb :: a.hit.drop (i + 1) := by obtain ⟨h1, rfl⟩ := List.getElem?_eq_some_iff.1 hbi; exact List.drop_eq_getElem_cons h1
      rw [e1, e2, e3] at htg
      have htc := tog_cons _ _ _ _ _ _ _ _ _ htg
      rw [hln] at htc
      obtain ⟨go, rfl⟩ : ∃ go, oa = some ⟨go, 0, none⟩ := by
        rcases hoa with rfl | ⟨go, rfl, _⟩
        · rcases HO.out.2 with ⟨_, h2⟩ | ⟨g1, cap', cur, h, _⟩
          · have := HN.out; omega
          · rw [HVO.out] at h; cases h
        · exact ⟨go, rfl⟩
      have hoi := HO.out.no hI.md
      rw [HVO.out] at hoi
      have cx := InE.cell hoi hxi
      have hilt : (i : Int) < (n : Int) := by omega
      clear e1 e2 e3 htg
      by_cases hxl : x < ln
      · rw [if_pos hxl] at htc
        have hxli : (x : Int) < (ln : Int) := by omega
        have HTC : Hid (M2.togGo of (of.drop (i + 1)) (a.nx.drop (i + 1)) (a.hit.drop (i + 1)) au = some b) := htc
        clear htc hI hoi hlx hlh hln hxi hri hbi
        go_wp2
        go_roundg (n - (i + 1))
        case measure => omega
        case rel => exact ⟨i + 1, lx, lh, au, by omega, rfl, by go_num, HI.out, by have := HLN.out.1; omega, by have := HLN.out; omega, HTC.out⟩
      · rw [if_neg hxl] at htc
        obtain ⟨Nv, hNv, htc⟩ := htc
        have hxli : ¬ (x : Int) < (ln : Int) := by omega
        obtain ⟨gx, rfl⟩ : ∃ gx, xa = some ⟨gx, 0, none⟩ := by
          rcases hxa with rfl | ⟨gx, rfl, _⟩
          · rcases HX.out.2 with ⟨_, h2⟩ | ⟨g1, cap', cur, h, _⟩
            · have := HL1.out; omega
            · rw [HVX.out] at h; cases h
          · exact ⟨gx, rfl⟩
        have hxi2 := HX.out.no hI.md
        rw [HVX.out] at hxi2
        have q0 : wr.cell? ⟨gx, i * 4, none⟩ = some (.int .i64 (r.a : Int)) := hxi2.cell i 0 hri rfl
        have q1 : wr.cell? ⟨gx, i * 4 + 1, none⟩ = some (.int .i64 (r.b : Int)) := hxi2.cell i 1 hri rfl
        have q2 : wr.cell? ⟨gx, i * 4 + 2, none⟩ = some (.int .i64 (r.c : Int)) := hxi2.cell i 2 hri rfl
        have q3 : wr.cell? ⟨gx, i * 4 + 3, none⟩ = some (.int .i64 (r.d : Int)) := hxi2.cell i 3 hri rfl
        have hQ0 : w.heap.size ≤ wr.heap.size := hI.md.size
        have hxQ : lx.ownBlock ≠ some wr.heap.size := fun e => by have := hI.nx.lt e; omega
        obtain ⟨W2, hW2⟩ : ∃ W2, wr.alloc (Obj.cells #[.int .i64 0, .int .i64 0, .int .i64 0, .int .i64 0] 106) = W2 := ⟨_, rfl⟩
        have hm2 : Mod No wr W2 := by rw [← hW2]; exact (Mod.refl _ _).alloc _
        have HI2 : Hid (TI w w.heap.size vx vh vo cn lx lh au W2 ∧ Blk W2 wr.heap.size (qc Nv 0) 106) := ⟨hI.no hm2, by rw [← hW2]; exact heap_alloc_new wr _⟩
        have hxi3 := hxi2.no hm2
        have p0 : W2.cell? ⟨gx, i * 4, none⟩ = some (.int .i64 (r.a : Int)) := hxi3.cell i 0 hri rfl
        have p1 : W2.cell? ⟨gx, i * 4 + 1, none⟩ = some (.int .i64 (r.b : Int)) := hxi3.cell i 1 hri rfl
        have p2 : W2.cell? ⟨gx, i * 4 + 2, none⟩ = some (.int .i64 (r.c : Int)) := hxi3.cell i 2 hri rfl
        have p3 : W2.cell? ⟨gx, i * 4 + 3, none⟩ = some (.int .i64 (r.d : Int)) := hxi3.cell i 3 hri rfl
        have c2 := HI2.out.1.boxA.cell 0 rfl
        rw [HVX.out] at c2
        have HNV : Hid (∀ l, l < 4 → of[r4g r l]? = some (Nv l)) := hNv
        have HTC : Hid (M2.togGo of (of.drop (i + 1)) (a.nx.drop (i + 1)) (a.hit.drop (i + 1)) ⟨au.nx ++ [⟨Nv 0, Nv 1, Nv 2, Nv 3⟩], au.hit ++ [hb]⟩ = some b) := htc
        have HBI : Hid (a.hit[i]? = some hb) := hbi
        clear hI hoi hlx hlh hln hxi hri hbi hxi2 hxi3 hm2 hNv htc HI
        go_wp2_with fail
        clear hW2 p0 p1 p2 p3 q0 q1 q2 q3 c2 a0 a1 b0 d0 d1 cx
        generalize wr.heap.size = Q at HI2 hQ0 hxQ ⊢
        go_loopg [29] 4 (fun h v29 wx => ∃ l : Nat, v29 = .int .i64 (l : Int) ∧ l ≤ 4 ∧ h = 4 - l ∧ TI w w.heap.size vx vh vo cn lx lh au wx ∧ Blk wx Q (qc Nv l) 106)
        case atStart => exact ⟨0, rfl, by omega, rfl, HI2.out.1, HI2.out.2⟩
        case round =>
          obtain ⟨l, rfl, hl4, hh4, hI, hQ⟩ := hrel
          have HI : Hid (TI w w.heap.size vx vh vo cn lx lh au wr) := hI
          have HQ : Hid (Blk wr Q (qc Nv l) 106) := hQ
          by_cases hl4' : l < 4
          · have hli : (l : Int) < 4 := by omega
            have hnv := HNV.out l hl4'
            have hTn : r4g r l < n := by have := (List.getElem?_eq_some_iff.1 hnv).1; rw [← HN.out] at this; exact this
            have ix := ix61 r l hl4'
            have hoi := HO.out.no hI.md
            rw [HVO.out] at hoi
            have ct := InE.cell hoi hnv
            have b0 := hI.boxC.cell 0 rfl
            rw [HVO.out] at b0
            generalize r4g r l = T at ix ct hTn
            have hTi : (T : Int) < (n : Int) := by omega
            obtain ⟨qv, hqv⟩ : ∃ v, (qc Nv l)[l]? = some v := ⟨(qc Nv l)[l]'(by simp [qc]; omega), List.getElem?_eq_getElem _⟩
            have cq := hQ.cell l hqv
            have fq := hQ.free l
            clear hI hQ hoi hnv hqv
            go_wp2
            go_roundg (4 - (l + 1))
            case measure => omega
            case rel => exact ⟨l + 1, by go_num, by omega, rfl, HI.out.put HQ.out hQ0 hxQ l _, by rw [← qc_set Nv l hl4']; exact HQ.out.set l _⟩
          · obtain rfl : l = 4 := by omega
            obtain ⟨i0, hinf, hz0, hz1, hz2⟩ := info_parts Tryz.info106
            have d0 := hI.aut.cell 0 rfl
            have e0 := hI.aut.free 0
            rw [HLX.out] at d0
            change Blk wr Q [.int .i64 (Nv 0 : Int), .int .i64 (Nv 1 : Int), .int .i64 (Nv 2 : Int), .int .i64 (Nv 3 : Int)] 106 at hQ
            have q0 := hQ.cell 0 rfl
            have q1 := hQ.cell 1 rfl
            have q2 := hQ.cell 2 rfl
            have q3 := hQ.cell 3 rfl
            have hown : wr.ownsRow 0 106 4 (.slice ya ln ycap) ln (au.nx.flatMap R4E.f) := by have := hI.nx; unfold Row at this; rw [HLX.out, HLN.out.1] at this; exact this
            have hAlt := hI.aut.lt
            have hln3 : ln ≤ 300000 := by omega
            have hAx : some (w.heap.size + 1 + 1 + 1) ≠ lx.ownBlock := fun e => hI.aut.apart hI.nx (by decide) e.symm
            rw [HLX.out] at hAx
            clear hI hQ
            go_wp2_with (at_builtin; refine wpList_append_lies _ rfl _ _ 84 rfl 0 106 i0 _ 4 32 Tryz.underlying84 hinf hz0 hz1 hz2 rfl (by omega) (.slice ya ln ycap) ln (au.nx.flatMap R4E.f) rfl (hown.alloc _) ⟨wr.heap.size, 0, none⟩ 1 1 [.int .i64 (Nv 0 : Int), .int .i64 (Nv 1 : Int), .int .i64 (Nv 2 : Int), .int .i64 (Nv 3 : Int)] rfl rfl ?c1 ?c2 (by omega) (by unfold maxLen; omega) (by omega) (by simp) (wr.heap.size + 1) (by simp) ?_)
            case c1 => exact World.news_of_block (cs := #[.int .i64 (Nv 0 : Int), .int .i64 (Nv 1 : Int), .int .i64 (Nv 2 : Int), .int .i64 (Nv 3 : Int)]) (t := 106) (fr := (0, 0)) (heap_alloc_new wr _)
            case c2 => intro u hu; simp at hu; rcases hu with rfl | rfl | rfl | rfl <;> rfl
            intro gg cap2 w7 hown7 hgrow hat hltt
            have HIA := HI.out.no ((Mod.refl _ _).alloc (Obj.cells #[.int .i64 (Nv 0 : Int), .int .i64 (Nv 1 : Int), .int .i64 (Nv 2 : Int), .int .i64 (Nv 3 : Int)] 106))
            have hf7 : Fresh (wr.alloc (Obj.cells #[.int .i64 (Nv 0 : Int), .int .i64 (Nv 1 : Int), .int .i64 (Nv 2 : Int), .int .i64 (Nv 3 : Int)] 106)) lx (.slice (some ⟨gg, 0, none⟩) (ln + 1) cap2) := by
              intro g1 hg1
              cases hg1
              rcases hat with h | h
              · exact Or.inl (by rw [HLX.out]; exact h)
              · exact Or.inr (by simp; show wr.heap.size + 1 ≤ gg; omega)
            have hr7 : Row R4E w7 (.slice (some ⟨gg, 0, none⟩) (ln + 1) cap2) (au.nx ++ [⟨Nv 0, Nv 1, Nv 2, Nv 3⟩]) := by
              refine Row.snoc ?_
              rw [HLN.out.1]
              exact hown7
            have HI8 := HIA.moreX (by rw [HLX.out]; exact hgrow) hr7 hf7
            have hA7 : Blk w7 (w.heap.size + 1 + 1 + 1) [lx, lh] 142 := HIA.aut.grown hgrow hAx
            have a0 := hA7.cell 0 rfl
            rw [HLX.out] at a0
            have b0 := hA7.free 0
            obtain ⟨w8, hw8⟩ : ∃ w8, w7.setCell ⟨w.heap.size + 1 + 1 + 1, 0, none⟩ (.slice (some ⟨gg, 0, none⟩) (ln + 1) cap2) = w8 := ⟨_, rfl⟩
            rw [hw8] at HI8
            obtain ⟨v8, hv8⟩ : ∃ v8, v8 = Value.slice (some ⟨gg, 0, none⟩) (ln + 1) cap2 := ⟨_, rfl⟩
            rw [← hv8] at HI8
            have HI8 : Hid (TI w w.heap.size vx vh vo cn v8 lh ⟨au.nx ++ [⟨Nv 0, Nv 1, Nv 2, Nv 3⟩], au.hit⟩ w8) := HI8
            clear HIA hf7 hr7 hA7 hown7 hgrow hat hltt hown d0 e0 q0 q1 q2 q3 hinf hz0 hz1 hz2 hAx HI HQ hv8
            go_wp2
            clear hw8 a0 b0
            obtain ⟨j0, hinf, hz0, hz1, hz2⟩ := info_parts Tryz.info4
            obtain ⟨gh', rfl⟩ : ∃ gh', ha = some ⟨gh', 0, none⟩ := by
              rcases hha with rfl | ⟨gx, rfl, _⟩
              · rcases HH.out.2 with ⟨_, h2⟩ | ⟨g1, cap', cur, h, _⟩
                · have := HL2.out; omega
                · rw [HVH.out] at h; cases h
              · exact ⟨gx, rfl⟩
            have hh8 := HH.out.no HI8.out.md
            rw [HVH.out] at hh8
            have ch := BoE.cell hh8 HBI.out
            have x1 := HI8.out.boxA.cell 1 rfl
            rw [HVH.out] at x1
            have d1 := HI8.out.aut.cell 1 rfl
            rw [HLH.out] at d1
            have hown8 : w8.ownsRow 0 4 1 (.slice za ln zcap) ln (au.hit.flatMap BoE.f) := by have := HI8.out.hit; unfold Row at this; rw [HLH.out] at this; rw [show (M2.Auto.mk (au.nx ++ [⟨Nv 0, Nv 1, Nv 2, Nv 3⟩]) au.hit).hit = au.hit from rfl, HLN.out.2] at this; exact this
            have hAh : some (w.heap.size + 1 + 1 + 1) ≠ lh.ownBlock := fun e => HI8.out.aut.apart HI8.out.hit (by decide) e.symm
            rw [HLH.out] at hAh
            have F1 := HI8.out.aut.freeA 1
            have K1 := HI8.out.aut.cellA 1 rfl
            rw [HLH.out] at K1
            have hA8 := HI8.out.aut.lt
            have hilt2 : (i : Int) < (n : Int) := by omega
            clear hh8
            go_region_law (refine step_append_lies _ (by rfl) _ _ _ (by rfl) 0 4 j0 _ 1 1 Tryz.underlying122 hinf hz0 hz1 hz2 rfl (by omega) (.slice za ln zcap) ln (au.hit.flatMap BoE.f) (by rfl) ((hown8.alloc _).drew) ⟨w8.heap.size, 0, none⟩ 1 1 [.bool hb] (by rfl) (by rfl) (World.news_of_block (cs := #[.bool hb]) (t := 4) (fr := (0, 0)) (heap_alloc_new w8 _)) (by intro u hu; simp at hu; rw [hu]; rfl) (by omega) (by unfold maxLen; omega) (by omega) (by simp) (w8.heap.size + 1) (by simp) ?_; intro g2 cap3 w10 hown10 hgrow10 hat10 hltt10; have s0 := (hgrow10.cell_far ⟨w.heap.size + 1 + 1 + 1, 1, none⟩ (by simp; omega) hAh).trans (K1 _); have s1 := (hgrow10.frozen_far ⟨w.heap.size + 1 + 1 + 1, 1, none⟩ (by simp; omega) hAh).trans (F1 _))
            all_goals
              have hf10 : Fresh (w8.alloc (Obj.cells #[.bool hb] 4)).drew lh (.slice (some ⟨g2, 0, none⟩) (ln + 1) cap3) := by
                intro g1 hg1
                cases hg1
                rcases hat10 with h | h
                · exact Or.inl (by rw [HLH.out]; exact h)
                · exact Or.inr (by show (w8.alloc (Obj.cells #[.bool hb] 4)).heap.size ≤ g2; simp; omega)
              have hr10 : Row BoE w10 (.slice (some ⟨g2, 0, none⟩) (ln + 1) cap3) (au.hit ++ [hb]) := by
                refine Row.snoc ?_
                rw [HLN.out.2]
                exact hown10
              have HI11 : Hid (TI w w.heap.size vx vh vo cn v8 (.slice (some ⟨g2, 0, none⟩) (ln + 1) cap3) ⟨au.nx ++ [⟨Nv 0, Nv 1, Nv 2, Nv 3⟩], au.hit ++ [hb]⟩ (w10.setCell ⟨w.heap.size + 1 + 1 + 1, 1, none⟩ (.slice (some ⟨g2, 0, none⟩) (ln + 1) cap3))) := (HI8.out.no (((Mod.refl _ _).alloc (Obj.cells #[.bool hb] 4)).drew)).moreH (by rw [HLH.out]; exact hgrow10) hr10 hf10
              clear hf10 hr10 K1 F1 hown8 hown10 hgrow10 hat10 hltt10 s0 s1 x1 d1 hinf hz0 hz1 hz2 ch
              go_wp2
              go_roundg (n - (i + 1))
              case measure => omega
              case rel => exact ⟨i + 1, v8, _, ⟨au.nx ++ [⟨Nv 0, Nv 1, Nv 2, Nv 3⟩], au.hit ++ [hb]⟩, by omega, rfl, by go_num, HI11.out, by simp; have := HLN.out.1; omega, by simp; have := HLN.out; omega, HTC.out⟩
    · obtain rfl : i = n := by omega
      rw [List.drop_of_length_le (by have := HN.out; omega), M2.togGo] at htg
      obtain rfl := Option.some.inj htg
      have r0 := hI.res.cell 0 rfl
      have r1 := hI.res.cell 1 rfl
      have f0 := hI.res.free 0
      have f1 := hI.res.free 1
      clear hI htg hlx hlh hln
      go_wp2
      refine bodyPost_ret (v := .agg #[.slice ya ln ycap, .slice za ln zcap]) (by simp [results, Tryz.results89, go_sem, r0, r1]) rfl ⟨?_, lx, lh, by rw [HLX.out, HLH.out], ?_, ?_, HI.out.ox, HI.out.oh, by have := HLN.out; omega, by have := HLN.out.1; omega⟩
      · exact (HI.out.md.setCell (a := ⟨w.heap.size + 1 + 1, 0, none⟩) (fun h => absurd h (by simp; omega)) _).setCell (a := ⟨w.heap.size + 1 + 1, 1, none⟩) (fun h => absurd h (by simp; omega)) _
      · have h1 := HI.out.res.apart HI.out.nx (by decide)
        exact (HI.out.nx.other (a := ⟨w.heap.size + 1 + 1, 0, none⟩) h1 _).other (a := ⟨w.heap.size + 1 + 1, 1, none⟩) h1 _
      · have h1 := HI.out.res.apart HI.out.hit (by decide)
        exact (HI.out.hit.other (a := ⟨w.heap.size + 1 + 1, 0, none⟩) h1 _).other (a := ⟨w.heap.size + 1 + 1, 1, none⟩) h1 _
end Go.Proofs.YtmbapmbpnnaanabGreatDoor
namespace Go.Proofs.YtmbapmbpnnaanabGreatDoor
open Go.RowKit
attribute [local go_sem ↓] Go.wp_at_zero Go.wp_at_succ

theorem walkM_mono (ps : List Mir.Place) (wh : Mir.Piece) : ∀ (f i : Nat) (m : M2.Meet) (au a : M2.Auto), M2.walkM ps wh f i m au = some a → au.nx.length ≤ a.nx.length
  | 0, i, m, au, a, h => by rw [M2.walkM] at h; cases h
  | f + 1, i, m, au, a, h => by
    rw [M2.walkM] at h
    cases hm : m.met[i]? with
    | none => rw [hm] at h; cases h; exact Nat.le_refl _
    | some st =>
      rw [hm] at h
      dsimp only at h
      generalize M2.four (fun l m => M2.numberM m (M2.stepN ps wh st l)) m = y at h
      cases y with
      | none => cases h
      | some y =>
        have := walkM_mono ps wh f (i + 1) y.2 _ a h
        simp at this
        omega
theorem walk_pos {r : Mir.Rule} {a : M2.Auto} (h : M2.walk r = some a) : 0 < a.nx.length := by
  unfold M2.walk at h
  split at h
  · cases h
  · split at h
    · cases h
    · rename_i k m hn
      have hmet : ∃ s0, m.met[0]? = some s0 := by
        unfold M2.numberM at hn
        generalize hs : (if r.wh.e = true then M2.hitN r.ps else r.wh.f) = s0 at hn
        cases hu : (List.replicate (M2.hitN r.ps + 1) 0)[s0]? with
        | none => simp [hu] at hn
        | some u =>
          have hu0 : u = 0 := by have := List.mem_of_getElem? hu; exact List.eq_of_mem_replicate this
          subst hu0
          simp only [hu, Option.some.injEq, Prod.mk.injEq] at hn
          obtain ⟨-, rfl⟩ := hn
          exact ⟨s0, by simp⟩
      obtain ⟨s0, hs0⟩ := hmet
      rw [M2.walkM, hs0] at h
      dsimp only at h
      generalize M2.four (fun l m => M2.numberM m (M2.stepN r.ps r.wh s0 l)) m = y at h
      cases y with
      | none => cases h
      | some y =>
        have := walkM_mono _ _ _ _ _ _ _ h
        simp at this
        omega
theorem letters_len (nx : List Mir.R4) (most : Nat) : ∀ (f : Nat) (c r : List Nat × Nat), M2.lettersM nx most f c = some r → r.1.length = c.1.length
  | 0, c, r, h => by rw [M2.lettersM] at h; cases h; rfl
  | f + 1, c, r, h => by
    rw [M2.lettersM] at h
    split at h
    · cases h; rfl
    · split at h
      · cases h
      · rename_i c2 hs
        rw [letters_len nx most f c2 r h, split_len hs]
theorem refine_len (nx : List Mir.R4) (most : Nat) : ∀ (f : Nat) (c r : List Nat × Nat), M2.refineM nx most f c = some r → r.1.length = c.1.length
  | 0, c, r, h => by rw [M2.refineM] at h; cases h
  | f + 1, c, r, h => by
    rw [M2.refineM] at h
    split at h
    · cases h; rfl
    · split at h
      · cases h
      · rename_i c2 hs
        split at h
        · obtain rfl := Option.some.inj h; exact letters_len nx most 4 c _ hs
        · rw [refine_len nx most f c2 r h, letters_len nx most 4 c c2 hs]
theorem byHit_len (a : M2.Auto) : (M2.byHit a).1.length = a.hit.length ∧ (M2.byHit a).2 ≤ 2 := by
  rw [byHit_eq]
  refine ⟨bhOf_len _ _ _ (Nat.le_refl _), ?_⟩
  show bhC _ _ _ ≤ 2
  unfold bhC
  split <;> omega

/-- What 'Least' gives. -/
def LeastPost (res : Option M2.Auto) (w : World) (e : Ending) (w' : World) : Prop :=
  Mod No w w' ∧ (match res with
    | none => e = .returned (.tuple #[.agg #[.slice none 0 0, .slice none 0 0], .bool false])
    | some b => ∃ vx vh, e = .returned (.tuple #[.agg #[vx, vh], .bool true]) ∧ Row R4E w' vx b.nx ∧ Row BoE w' vh b.hit ∧ (∀ g, vx.ownBlock = some g → w.heap.size ≤ g) ∧ (∀ g, vh.ownBlock = some g → w.heap.size ≤ g) ∧ b.nx.length = b.hit.length ∧ b.nx.length ≤ 300000)

set_option maxHeartbeats 4000000 in
set_option maxRecDepth 100000 in
theorem least_any (w : World) (vp : Value) (base : Nat) (r : Mir.Rule) (hok : RuOk w base r vp) {res : Option M2.Auto} (hM : M2.leastM r = some res) :
    Calls Tryz.prog 56 #[netV vp r.wh] w fun e w' => LeastPost res w e w' := by
  unfold M2.leastM at hM
  cases hw : M2.walk r with
  | none => rw [hw] at hM; cases hM
  | some a =>
    rw [hw] at hM
    dsimp only at hM
    cases hrf : M2.refineM a.nx 60 100 (M2.byHit a) with
    | none => rw [hrf] at hM; cases hM
    | some c =>
      rw [hrf] at hM
      dsimp only at hM
      have hpos := walk_pos hw
      have hbl := byHit_len a
      have hrl := refine_len _ _ _ _ _ hrf
      have HW : Hid (∀ o1 o2, Calls Tryz.prog 86 #[netV vp r.wh] ((w.alloc o1).alloc o2) fun e w' => AutoPost a ((w.alloc o1).alloc o2) e w') := fun o1 o2 => walk_any _ vp base r (hok.mod (((Mod.refl No _).alloc _).alloc _) fun _ _ x => x) hw
      have HB : Hid (∀ wx vx vh, Row R4E wx vx a.nx → Row BoE wx vh a.hit → a.nx.length = a.hit.length → a.nx.length ≤ 300000 → Calls Tryz.prog 87 #[.agg #[vx, vh]] wx fun e w' => ClPost (M2.byHit a).1 (M2.byHit a).2 wx e w') := fun wx vx vh h1 h2 h3 h4 => byHit_any wx vx vh a h1 h2 (by omega) (by omega)
      have HR : Hid (∀ wx vo vn, Row InE wx vo (M2.byHit a).1 → Row R4E wx vn a.nx → a.nx.length = a.hit.length → a.nx.length ≤ 300000 → Calls Tryz.prog 88 #[.agg #[vo, .int .i64 ((M2.byHit a).2 : Int)], vn, .int .i64 60] wx fun e w' => RePost c.1 c.2 wx e w') := fun wx vo vn h1 h2 h3 h4 => refine_any wx vo vn _ _ 60 a.nx h1 h2 (by omega) (by omega) hpos h4 (by rw [hbl.1, h3]) hrf
      have HT : Hid (∀ wx vx vh vo cn b, Row R4E wx vx a.nx → Row BoE wx vh a.hit → Row InE wx vo c.1 → a.nx.length = a.hit.length → a.nx.length ≤ 300000 → M2.togGo c.1 c.1 a.nx a.hit ⟨[], []⟩ = some b → Calls Tryz.prog 89 #[.agg #[vx, vh], .agg #[vo, .int .i64 ((cn : Nat) : Int)]] wx fun e w' => AutoPost b wx e w') := fun wx vx vh vo cn b h1 h2 h3 h4 h5 h6 => together_any wx vx vh vo cn a c.1 h1 h2 h3 (by rw [hrl, hbl.1, h4]) (by rw [hrl, hbl.1]) (by rw [hrl, hbl.1, ← h4]; exact h5) h6
      obtain ⟨va, vcap, hvp, -, -, -⟩ := hok.row.any
      generalize r.ps.length = n0 at hvp
      generalize (M2.byHit a).1 = of0 at HB HR
      generalize (M2.byHit a).2 = c0 at HB HR
      obtain ⟨of1, c1⟩ := c
      dsimp only at hM HR HT
      have HM : Hid ((if 60 < c1 then some none else (M2.togGo of1 of1 a.nx a.hit ⟨[], []⟩).map some) = some res) := hM
      clear hM hok hw hrf hpos hbl hrl
      subst hvp
      unfold netV at *
      generalize r.wh = x at *
      go_enter Tryz.func56, Tryz.ntmps56
      go_wp2_with fail
      refine (HW.out _ _).mono ?_
      rintro e w1 ⟨m1, vx, vh, rfl, hx1, hh1, ox, oh, hl1, hl2⟩
      clear HW
      have hR1 : Blk w1 (w.heap.size + 1) [.slice none 0 0, .slice none 0 0] 142 := Blk.mod (new2_1 w _ _) m1 (fun x => x)
      have hm1 : Mod No w w1 := (((Mod.refl _ _).alloc _).alloc _).no m1
      obtain ⟨xa, xcap, hvx, -, -, -⟩ := hx1.any
      obtain ⟨ya, ycap, hvh, -, -, -⟩ := hh1.any
      generalize hln : a.nx.length = ln at hvx hl1 hl2 HB HR HT
      generalize hlh : a.hit.length = lh at hvh hl1 HB HR HT
      have HVX : Hid (vx = .slice xa ln xcap) := hvx
      have HVH : Hid (vh = .slice ya lh ycap) := hvh
      have HLL : Hid (ln = lh ∧ ln ≤ 300000) := ⟨hl1, hl2⟩
      have H1 : Hid (Blk w1 (w.heap.size + 1) [.slice none 0 0, .slice none 0 0] 142 ∧ Mod No w w1 ∧ Row R4E w1 vx a.nx ∧ Row BoE w1 vh a.hit) := ⟨hR1, hm1, hx1, hh1⟩
      rw [hvx, hvh]
      have hcB := fun o => HB.out (w1.alloc o) vx vh (hx1.alloc o) (hh1.alloc o) hl1 hl2
      rw [hvx, hvh] at hcB
      clear hR1 hm1 hx1 hh1 m1 hvx hvh hln hlh ox oh hl1 hl2 HB
      have HCB : Hid (∀ o, Calls Tryz.prog 87 #[.agg #[.slice xa ln xcap, .slice ya lh ycap]] (w1.alloc o) fun e w' => ClPost of0 c0 (w1.alloc o) e w') := hcB
      clear hcB
      go_wp2_with fail
      refine (HCB.out _).mono ?_
      rintro e w2 ⟨m2, v2, rfl, hr2, ho2⟩
      clear HCB
      have hA2 : Blk w2 w1.heap.size [.slice xa ln xcap, .slice ya lh ycap] 142 := Blk.mod (heap_alloc_new w1 _) m2 (fun x => x)
      have hm12 : Mod No w1 w2 := ((Mod.refl _ _).alloc _).no m2
      obtain ⟨za, zcap, hv2, -, -, -⟩ := hr2.any
      generalize hl0 : of0.length = l0 at hv2
      have hcR := fun o => HR.out (w2.alloc o) v2 vx (hr2.alloc o) ((H1.out.2.2.1.no hm12).alloc o) HLL.out.1 HLL.out.2
      rw [hv2, HVX.out] at hcR
      have HCR : Hid (∀ o, Calls Tryz.prog 88 #[.agg #[.slice za l0 zcap, .int .i64 (c0 : Int)], .slice xa ln xcap, .int .i64 60] (w2.alloc o) fun e w' => RePost of1 c1 (w2.alloc o) e w') := hcR
      have HA2 : Hid (Blk w2 w1.heap.size [.slice xa ln xcap, .slice ya lh ycap] 142 ∧ Mod No w1 w2) := ⟨hA2, hm12⟩
      have hAlt := hA2.lt
      have a0 := hA2.cellA 0 rfl
      have hneA : ¬ w1.heap.size = w2.heap.size := by omega
      rw [hv2]
      clear m2 hr2 ho2 hA2 hm12 hv2 hl0 hcR HR
      go_wp2_with fail
      refine (HCR.out _).mono ?_
      rintro e w3 ⟨m3, v3, rfl, hr3⟩
      clear HCR a0
      have hm23 : Mod No w2 w3 := ((Mod.refl _ _).alloc _).no m3
      have hA3 := HA2.out.1.mod hm23 (fun x => x)
      have hR3 := (H1.out.1.mod HA2.out.2 (fun x => x)).mod hm23 (fun x => x)
      have hmw3 : Mod No w w3 := (H1.out.2.1.no HA2.out.2).no hm23
      obtain ⟨ua, ucap, hv3, -, -, -⟩ := hr3.any
      generalize hl3 : of1.length = l3 at hv3
      have HM' := HM.out
      have HR3 : Hid (Blk w3 (w.heap.size + 1) [.slice none 0 0, .slice none 0 0] 142 ∧ Mod No w w3) := ⟨hR3, hmw3⟩
      have hRlt := hR3.lt
      have hneR : ¬ w.heap.size + 1 = w3.heap.size := by omega
      by_cases h60 : 60 < c1
      · rw [if_pos h60] at HM'
        obtain rfl := Option.some.inj HM'
        have h60i : (60 : Int) < (c1 : Int) := by omega
        obtain ⟨w5, hw5⟩ : ∃ w5, w3.alloc (Obj.cells #[.slice ua l3 ucap, .int .i64 (c1 : Int)] 198) = w5 := ⟨_, rfl⟩
        have hR5 : Blk w5 (w.heap.size + 1) [.slice none 0 0, .slice none 0 0] 142 := by rw [← hw5]; exact hR3.alloc _
        have HM5 : Hid (Mod No w w5) := by show Mod No w w5; rw [← hw5]; exact hmw3.alloc _
        have k5 : w5.cell? ⟨w3.heap.size, 1, none⟩ = some (.int .i64 (c1 : Int)) := by rw [← hw5]; exact Blk.cell (cs := [.slice ua l3 ucap, .int .i64 (c1 : Int)]) (heap_alloc_new w3 _) 1 rfl
        have R0 := hR5.cell 0 rfl
        have R1 := hR5.cell 1 rfl
        have F0 := hR5.free 0
        have F1 := hR5.free 1
        rw [hv3]
        clear hR5
        clear m3 hr3 hm23 hA3 hR3 hmw3 hv3 hl3 HM' HT
        go_wp2
        refine bodyPost_ret (v := .tuple #[.agg #[.slice none 0 0, .slice none 0 0], .bool false]) (by simp [results, Tryz.results56, go_sem, R0, R1]) rfl ⟨?_, rfl⟩
        exact (HM5.out.setCell (a := ⟨w.heap.size + 1, 0, none⟩) (fun h => absurd h (by simp)) _).setCell (a := ⟨w.heap.size + 1, 1, none⟩) (fun h => absurd h (by simp)) _
      · rw [if_neg h60] at HM'
        have h60i : ¬ (60 : Int) < (c1 : Int) := by omega
        cases htg : M2.togGo of1 of1 a.nx a.hit ⟨[], []⟩ with
        | none => rw [htg] at HM'; cases HM'
        | some b =>
          rw [htg] at HM'
          obtain rfl := Option.some.inj HM'
          have hcT := fun o => HT.out (w3.alloc o) vx vh v3 c1 b ((((H1.out.2.2.1.no HA2.out.2).no hm23).alloc o)) ((((H1.out.2.2.2.no HA2.out.2).no hm23).alloc o)) (hr3.alloc o) HLL.out.1 HLL.out.2 htg
          rw [HVX.out, HVH.out, hv3] at hcT
          have HCT : Hid (∀ o, Calls Tryz.prog 89 #[.agg #[.slice xa ln xcap, .slice ya lh ycap], .agg #[.slice ua l3 ucap, .int .i64 (c1 : Int)]] (w3.alloc o) fun e w' => AutoPost b (w3.alloc o) e w') := hcT
          have A0 := hA3.cellA 0 rfl
          have A1 := hA3.cellA 1 rfl
          have hneA3 : ¬ w1.heap.size = w3.heap.size := by have := hA3.lt; omega
          rw [hv3]
          clear m3 hr3 hm23 hA3 hR3 hmw3 hv3 hl3 HM' HT htg hcT
          go_wp2_with fail
          refine (HCT.out _).mono ?_
          rintro e w4 ⟨m4, vx4, vh4, rfl, hx4, hh4, ox4, oh4, hl41, hl42⟩
          clear HCT A0 A1
          have hm34 : Mod No w3 w4 := ((Mod.refl _ _).alloc _).no m4
          have hR4 := HR3.out.1.mod hm34 (fun x => x)
          have hmw4 : Mod No w w4 := HR3.out.2.no hm34
          obtain ⟨pa, pcap, hp, -, -, -⟩ := hx4.any
          obtain ⟨qa, qcap, hq, -, -, -⟩ := hh4.any
          have H4 : Hid (Blk w4 (w.heap.size + 1) [.slice none 0 0, .slice none 0 0] 142 ∧ Mod No w w4 ∧ Row R4E w4 vx4 b.nx ∧ Row BoE w4 vh4 b.hit ∧ (∀ g, vx4.ownBlock = some g → w.heap.size ≤ g) ∧ (∀ g, vh4.ownBlock = some g → w.heap.size ≤ g) ∧ b.nx.length = b.hit.length ∧ b.nx.length ≤ 300000) := ⟨hR4, hmw4, hx4, hh4, fun g hg => Nat.le_trans (by have := HR3.out.2.size; simp; omega) (ox4 g hg), fun g hg => Nat.le_trans (by have := HR3.out.2.size; simp; omega) (oh4 g hg), hl41, hl42⟩
          have R0 := hR4.cell 0 rfl
          have R1 := hR4.cell 1 rfl
          have F0 := hR4.free 0
          have F1 := hR4.free 1
          generalize b.nx.length = lp at hp
          generalize b.hit.length = lq at hq
          have HP : Hid (vx4 = .slice pa lp pcap ∧ vh4 = .slice qa lq qcap) := ⟨hp, hq⟩
          rw [hp, hq]
          clear m4 hx4 hh4 ox4 oh4 hl41 hl42 hm34 hR4 hmw4 hp hq
          go_wp2
          refine bodyPost_ret (v := .tuple #[.agg #[.slice pa lp pcap, .slice qa lq qcap], .bool true]) (by simp [results, Tryz.results56, go_sem, R0, R1]) rfl ⟨?_, vx4, vh4, by rw [HP.out.1, HP.out.2], ?_, ?_, H4.out.2.2.2.2.1, H4.out.2.2.2.2.2.1, H4.out.2.2.2.2.2.2.1, H4.out.2.2.2.2.2.2.2⟩
          · exact (H4.out.2.1.setCell (a := ⟨w.heap.size + 1, 0, none⟩) (fun h => absurd h (by simp)) _).setCell (a := ⟨w.heap.size + 1, 1, none⟩) (fun h => absurd h (by simp)) _
          · have h1 := H4.out.1.apart H4.out.2.2.1 (by decide)
            exact (H4.out.2.2.1.other (a := ⟨w.heap.size + 1, 0, none⟩) h1 _).other (a := ⟨w.heap.size + 1, 1, none⟩) h1 _
          · have h1 := H4.out.1.apart H4.out.2.2.2.1 (by decide)
            exact (H4.out.2.2.2.1.other (a := ⟨w.heap.size + 1, 0, none⟩) h1 _).other (a := ⟨w.heap.size + 1, 1, none⟩) h1 _
end Go.Proofs.YtmbapmbpnnaanabGreatDoor
