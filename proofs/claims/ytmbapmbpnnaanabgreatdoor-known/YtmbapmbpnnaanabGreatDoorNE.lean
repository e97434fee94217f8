import Derived.Test.YtmbapmbpnnaanabGreatDoorNC
namespace Go.Proofs.YtmbapmbpnnaanabGreatDoor
open Go.RowKit
attribute [local go_sem ↓] Go.wp_at_zero Go.wp_at_succ

theorem Blk.cellAA {w b cs T} (h : Blk w b cs T) (j : Nat) {v : Value} (hv : cs[j]? = some v) (o o2 : Obj) : ((w.alloc o).alloc o2).cell? ⟨b, j, none⟩ = some v := (h.alloc o).cellA j hv o2
/-- The graph's own block and its row of numbers, however they were made. -/
def NewG (W1 : World) (NN : Nat) (ka kw kh kd : Value) (G NU : Nat) (wc : World) : Prop := Blk wc G [ka, kw, kh, kd, nilS, .int .i64 0, .slice (some ⟨NU, 0, none⟩) NN NN, nilS, nilS, nilS] 172 ∧ Row InE wc (.slice (some ⟨NU, 0, none⟩) NN NN) (List.replicate NN 0) ∧ Mod No W1 wc ∧ W1.heap.size ≤ G ∧ W1.heap.size ≤ NU
theorem row_zero {w : World} {NN q : Nat} (hN : NN ≤ 9216) (h : w.heap[q]? = some (Obj.cells (Array.replicate NN (.int .i64 0)) 3)) : Row InE w (.slice (some ⟨q, 0, none⟩) NN NN) (List.replicate NN 0) := by
  have e : ((List.replicate NN (.int .i64 0)).toArray : Array Value) = Array.replicate NN (.int .i64 0) := by simp
  have b0 : Blk w q ((List.replicate NN (0 : Nat)).flatMap InE.f) 3 := by rw [ints_zero]; unfold Blk; rw [e]; exact h
  have r0 := Row.of_block (E := InE) b0 (by simp; unfold maxLen; omega)
  rw [List.length_replicate] at r0
  exact r0
theorem newG_1 {W1 : World} {NN : Nat} {ka kw kh kd : Value} (hN : NN ≤ 9216) : NewG W1 NN ka kw kh kd (W1.heap.size + 1) W1.heap.size ((W1.alloc (Obj.cells (Array.replicate NN (.int .i64 0)) 3)).alloc (Obj.cells #[ka, kw, kh, kd, nilS, .int .i64 0, .slice (some ⟨W1.heap.size, 0, none⟩) NN NN, nilS, nilS, nilS] 172)).drew := by
  refine ⟨?_, ?_, (((Mod.refl _ _).alloc _).alloc _).drew, by omega, Nat.le_refl _⟩
  · have := Blk.new (W1.alloc (Obj.cells (Array.replicate NN (.int .i64 0)) 3)) [ka, kw, kh, kd, nilS, .int .i64 0, .slice (some ⟨W1.heap.size, 0, none⟩) NN NN, nilS, nilS, nilS] 172
    have e : (W1.alloc (Obj.cells (Array.replicate NN (.int .i64 0)) 3)).heap.size = W1.heap.size + 1 := by simp
    rw [e] at this
    exact this
  · exact ((row_zero hN (heap_alloc_new W1 _)).alloc _).drew
theorem newG_2 {W1 : World} {NN : Nat} {ka kw kh kd : Value} (hN : NN ≤ 9216) : NewG W1 NN ka kw kh kd W1.heap.size (W1.heap.size + 1) ((W1.alloc (Obj.cells #[ka, kw, kh, kd, nilS, .int .i64 0, .slice (some ⟨W1.heap.size + 1, 0, none⟩) NN NN, nilS, nilS, nilS] 172)).alloc (Obj.cells (Array.replicate NN (.int .i64 0)) 3)).drew := by
  refine ⟨?_, ?_, (((Mod.refl _ _).alloc _).alloc _).drew, Nat.le_refl _, by omega⟩
  · exact ((Blk.new W1 [ka, kw, kh, kd, nilS, .int .i64 0, .slice (some ⟨W1.heap.size + 1, 0, none⟩) NN NN, nilS, nilS, nilS] 172).alloc _).drew
  · have := heap_alloc_new (W1.alloc (Obj.cells #[ka, kw, kh, kd, nilS, .int .i64 0, .slice (some ⟨W1.heap.size + 1, 0, none⟩) NN NN, nilS, nilS, nilS] 172)) (Obj.cells (Array.replicate NN (.int .i64 0)) 3)
    have e : (W1.alloc (Obj.cells #[ka, kw, kh, kd, nilS, .int .i64 0, .slice (some ⟨W1.heap.size + 1, 0, none⟩) NN NN, nilS, nilS, nilS] 172)).heap.size = W1.heap.size + 1 := by simp
    rw [e] at this
    exact (row_zero hN this).drew
set_option maxHeartbeats 1600000 in
set_option maxRecDepth 100000 in
theorem newGraph_any (w : World) (v : M2.View) (base : Nat) (ka kw kh kd : Value) (hv : VP v base ka kw kh kd w) {R : M3.GG} (hM : M3.graph v = some R) :
    Calls Tryz.prog 64 #[.agg #[ka, kw, kh, kd]] w fun e w' => GPost R v base ka kw kh kd w e w' := by
  obtain ⟨gA, gB, first, on, hpx, hgr, hpl, hsl, hon, hR⟩ := graph_spec hM
  obtain ⟨n, hn⟩ : ∃ n, n = v.k.ahead.length := ⟨_, rfl⟩
  have hn24 : n ≤ 24 := by rw [hn]; exact hv.n24
  obtain ⟨a1, c1, e1, -, -⟩ := hv.ah.open hn.symm
  obtain ⟨a2, n2, c2, e2⟩ := hv.wo.sl
  obtain ⟨a3, n3, c3, e3⟩ := hv.hi.sl
  obtain ⟨a4, n4, c4, e4⟩ := hv.de.sl
  obtain ⟨NN, hNN⟩ : ∃ NN, NN = (n * 4) * (n * 4) := ⟨_, rfl⟩
  have hNN2 : ((n : Int) * 4) * ((n : Int) * 4) = (NN : Int) := by rw [hNN]; simp
  have hNNb : NN ≤ 9216 := by
    rw [hNN]
    have h4 : n * 4 ≤ 96 := by omega
    exact Nat.mul_le_mul h4 h4
  rw [← hn, ← hNN] at hpx
  have hmk := make_ints NN (by omega)
  have HV : Hid (VP v base ka kw kh kd w) := hv
  have HE : Hid (ka = .slice a1 n c1 ∧ kw = .slice a2 n2 c2 ∧ kh = .slice a3 n3 c3 ∧ kd = .slice a4 n4 c4) := ⟨e1, e2, e3, e4⟩
  have HPX : Hid (M3.pairX n n 0 ⟨[], List.replicate NN 0, []⟩ = some gA) := hpx
  have HGR : Hid (M3.grow v 10000 0 gA [] = some (gB, first)) := hgr
  have HEND : Hid (gB.pairs.length ≤ 100000 ∧ gB.steps.length ≤ 100000 ∧ M3.findOn gB.pairs.length gB.steps 10000 none gB.pairs.length (List.replicate gB.pairs.length 0) = some on ∧ R = ⟨gB, gA.pairs.length, first ++ [gB.steps.length], on⟩) := ⟨hpl, hsl, hon, hR⟩
  have HN : Hid (n = v.k.ahead.length) := hn
  clear hv hM hpx hgr hpl hsl hon hR hn hNN
  rw [e1, e2, e3, e4]
  clear e1 e2 e3 e4
  go_enter Tryz.func64, Tryz.ntmps64
  go_wp2_with fail
  have HW1 : Hid (Mod No w ((w.alloc (Obj.cells #[.slice a1 n c1, .slice a2 n2 c2, .slice a3 n3 c3, .slice a4 n4 c4] 90)).alloc (Obj.cells #[nilS, nilS, nilS, nilS, nilS, .int .i64 0, nilS, nilS, nilS, nilS] 172)) ∧ Blk ((w.alloc (Obj.cells #[.slice a1 n c1, .slice a2 n2 c2, .slice a3 n3 c3, .slice a4 n4 c4] 90)).alloc (Obj.cells #[nilS, nilS, nilS, nilS, nilS, .int .i64 0, nilS, nilS, nilS, nilS] 172)) w.heap.size [.slice a1 n c1, .slice a2 n2 c2, .slice a3 n3 c3, .slice a4 n4 c4] 90 ∧ Blk ((w.alloc (Obj.cells #[.slice a1 n c1, .slice a2 n2 c2, .slice a3 n3 c3, .slice a4 n4 c4] 90)).alloc (Obj.cells #[nilS, nilS, nilS, nilS, nilS, .int .i64 0, nilS, nilS, nilS, nilS] 172)) (w.heap.size + 1) [nilS, nilS, nilS, nilS, nilS, .int .i64 0, nilS, nilS, nilS, nilS] 172) := ⟨((Mod.refl _ _).alloc _).alloc _, new2_0 w _ _, new2_1 w _ _⟩
  generalize (w.alloc (Obj.cells #[.slice a1 n c1, .slice a2 n2 c2, .slice a3 n3 c3, .slice a4 n4 c4] 90)).alloc (Obj.cells #[nilS, nilS, nilS, nilS, nilS, .int .i64 0, nilS, nilS, nilS, nilS] 172) = W1 at HW1 ⊢
  have b0 := HW1.out.2.1.cell 0 rfl
  have b1 := HW1.out.2.1.cell 1 rfl
  have b2 := HW1.out.2.1.cell 2 rfl
  have b3 := HW1.out.2.1.cell 3 rfl
  have B0 := HW1.out.2.1.cellA 0 rfl
  have B1 := HW1.out.2.1.cellA 1 rfl
  have B2 := HW1.out.2.1.cellA 2 rfl
  have B3 := HW1.out.2.1.cellA 3 rfl
  have C0 := HW1.out.2.1.cellAA 0 rfl
  have C1 := HW1.out.2.1.cellAA 1 rfl
  have C2 := HW1.out.2.1.cellAA 2 rfl
  have C3 := HW1.out.2.1.cellAA 3 rfl
  go_cut [5] from 16 to 21 (fun s5 wc => ∃ G NU, s5 = .pointer (some ⟨G, 0, none⟩) ∧ NewG W1 NN (.slice a1 n c1) (.slice a2 n2 c2) (.slice a3 n3 c3) (.slice a4 n4 c4) G NU wc)
  case first =>
    go_region
    all_goals (try go_wp2_with fail)
    all_goals go_meet
    all_goals first
      | exact ⟨_, _, rfl, newG_1 hNNb⟩
      | exact ⟨_, _, rfl, newG_2 hNNb⟩
  case rest =>
    obtain ⟨G, NU, rfl, hG⟩ := hcut
    clear b0 b1 b2 b3 B0 B1 B2 B3 C0 C1 C2 C3 hmk
    have HI0 : Hid (PG W1 v base G ka kw kh kd nilS (.int .i64 0) (.slice (some ⟨NU, 0, none⟩) NN NN) nilS nilS nilS ⟨[], List.replicate NN 0, []⟩ [] wc) := by
      have hm : Mod No w wc := HW1.out.1.no hG.2.2.1
      refine ⟨⟨by rw [HE.out.1, HE.out.2.1, HE.out.2.2.1, HE.out.2.2.2]; exact hG.1, HV.out.no hm, Row.nil _ _, hG.2.1, Row.nil _ _⟩, Row.nil _ _, hG.2.2.1, fun q hq => (by cases hq), fun q hq => (by cases hq), fun q hq => (by cases hq), fun q hq => (by cases hq; exact hG.2.2.2.2), fun q hq => (by cases hq), ⟨by simp; omega, fun u hu => by rw [List.eq_of_mem_replicate hu]; exact Nat.zero_le _⟩, hG.2.2.2.1⟩
    clear hG
    generalize (Value.slice (some ⟨NU, 0, none⟩) NN NN) = VN at HI0
    clear hNN2 hNNb
    go_wp2_with fail
    go_loopg [6] n (fun gh v6 wr => ∃ (x : Nat) (vp : Value) (g : M3.Gr), x ≤ n ∧ gh = n - x ∧ v6 = .int .i64 (x : Int) ∧ M3.pairX n gh x g = some gA ∧ PG W1 v base G ka kw kh kd vp (.int .i64 0) VN nilS nilS nilS g [] wr)
    case atStart => exact ⟨0, nilS, _, by omega, by omega, rfl, HPX.out, HI0.out⟩
    case round =>
      clear HI0 HPX
      obtain ⟨x, vp, g, hxn, hgk, rfl, hgo, hI⟩ := hrel
      have HI : Hid (PG W1 v base G ka kw kh kd vp (.int .i64 0) VN nilS nilS nilS g [] wr) := hI
      by_cases hlt : x < n
      · obtain ⟨c, hc⟩ : ∃ c, gk = c + 1 := ⟨n - (x + 1), by omega⟩
        rw [hc] at hgo
        obtain ⟨g2, hy, hx2⟩ := pairX_step hgo
        have HY : Hid (M3.pairY n x (n - (x + 1)) (x + 1) g = some g2) := hy
        have HX2 : Hid (M3.pairX n c (x + 1) g2 = some gA) := hx2
        have HC : Hid (c = n - (x + 1)) := by show c = n - (x + 1); omega
        have hxi : (x : Int) < (n : Int) := by omega
        clear hI hgo hy hx2 hc
        go_wp2_with fail
        go_loopg [7] (n - (x + 1)) (fun gh v7 wr => ∃ (y : Nat) (vp : Value) (g : M3.Gr), y ≤ n ∧ gh = n - y ∧ v7 = .int .i64 (y : Int) ∧ M3.pairY n x gh y g = some g2 ∧ PG W1 v base G ka kw kh kd vp (.int .i64 0) VN nilS nilS nilS g [] wr)
        case atStart => exact ⟨x + 1, vp, g, by omega, rfl, by go_num, HY.out, HI.out⟩
        case round =>
          clear HI HY
          obtain ⟨y, vp, g, hyn, hgy, rfl, hgo, hI⟩ := hrel
          have HI : Hid (PG W1 v base G ka kw kh kd vp (.int .i64 0) VN nilS nilS nilS g [] wr) := hI
          by_cases hly : y < n
          · obtain ⟨c, hc⟩ : ∃ c, gk = c + 1 := ⟨n - (y + 1), by omega⟩
            rw [hc] at hgo
            obtain ⟨hpl, k, ps, ns, hgn, hy2⟩ := pairY_step hgo
            rw [HN.out] at hgn
            have h53 := gnum_any wr v base G ka kw kh kd vp (.int .i64 0) VN nilS nilS nilS g.pairs g.nums g.steps hI.ng ⟨x, 0, y, 0⟩ ⟨by show x < 24; omega, by show 0 < 4; omega, by show y < 24; omega, by show 0 < 4; omega⟩ (by omega) hI.ok.nl (fun u hu => by have := hI.ok.nv u hu; omega) hgn
            have HGN : Hid (M3.gnum v.k.ahead.length g.pairs g.nums ⟨x, 0, y, 0⟩ = some (k, ps, ns)) := hgn
            have HY2 : Hid (M3.pairY n x c (y + 1) ⟨ps, ns, g.steps⟩ = some g2) := hy2
            have HC2 : Hid (c = n - (y + 1)) := by show c = n - (y + 1); omega
            have hyi : (y : Int) < (n : Int) := by omega
            clear hI hgo hgn hy2 hc
            go_wp2_with fail
            refine h53.mono ?_
            rintro e w8 ⟨rfl, vp3, hN8, hf8, hm8⟩
            have HI8 : Hid (PG W1 v base G ka kw kh kd vp3 (.int .i64 0) VN nilS nilS nilS ⟨ps, ns, g.steps⟩ [] w8) := HI.out.num HGN.out hN8 hf8 hm8
            clear h53 hN8 hf8 hm8 HI
            go_wp2
            go_roundg (n - (y + 1))
            case measure => omega
            case rel => exact ⟨y + 1, vp3, _, by omega, rfl, by go_num, by rw [← HC2.out]; exact HY2.out, HI8.out⟩
          · have hyn2 : y = n := by omega
            rw [hgy, hyn2, Nat.sub_self] at hgo
            have HG : Hid (g = g2) := Option.some.inj hgo
            have hyi : ¬ (y : Int) < (n : Int) := by omega
            clear hI hgo hgy hyn2
            go_wp2
            go_roundg (n - (x + 1))
            case measure => omega
            case rel => exact ⟨x + 1, vp, g2, by omega, rfl, by go_num, by rw [← HC.out]; exact HX2.out, by rw [← HG.out]; exact HI.out⟩
      · have hxn2 : x = n := by omega
        rw [hgk, hxn2, Nat.sub_self] at hgo
        have HG : Hid (g = gA) := Option.some.inj hgo
        have hxi : ¬ (x : Int) < (n : Int) := by omega
        obtain ⟨np, hnp⟩ : ∃ np, np = g.pairs.length := ⟨_, rfl⟩
        obtain ⟨pA, pC, evp, -, -⟩ := hI.ng.pr.open (n := np) hnp.symm
        have k4 := hI.ng.blk.cell 4 rfl
        rw [evp] at k4
        have k5 := hI.ng.blk.cell 5 rfl
        have f5 := hI.ng.blk.free 5
        have HI1 : Hid (PG W1 v base G ka kw kh kd vp (.int .i64 (np : Int)) VN nilS nilS nilS gA [] (wr.setCell ⟨G, 5, none⟩ (.int .i64 (np : Int)))) := by rw [← HG.out]; exact hI.set5 _
        have HNP : Hid (np = gA.pairs.length) := by rw [← HG.out]; exact hnp
        clear hI hgo hgk hxn2 evp hnp
        go_wp2_with fail
        clear k4 k5 f5 HI HG
        generalize wr.setCell ⟨G, 5, none⟩ (.int .i64 (np : Int)) = W2 at HI1 ⊢
        go_loopg [8] 10000 (fun gh v8 wr => ∃ (i : Nat) (vp vs vf : Value) (g : M3.Gr) (fi : List Nat), v8 = .int .i64 (i : Int) ∧ i + gh ≤ 10000 ∧ fi.length = i ∧ M3.grow v gh i g fi = some (gB, first) ∧ PG W1 v base G ka kw kh kd vp (.int .i64 (np : Int)) VN vs vf nilS g fi wr)
        case atStart => exact ⟨0, vp, nilS, nilS, gA, [], rfl, by omega, rfl, HGR.out, HI1.out⟩
        case round =>
          clear HI1 HGR
          obtain ⟨i, vp, vs, vf, g, fi, rfl, hib, hfl, hgo, hI⟩ := hrel
          have HI : Hid (PG W1 v base G ka kw kh kd vp (.int .i64 (np : Int)) VN vs vf nilS g fi wr) := hI
          match gk, hgo with
          | 0, hgo => cases hgo
          | f + 1, hgo =>
            obtain ⟨pn, hpn⟩ : ∃ pn, pn = g.pairs.length := ⟨_, rfl⟩
            obtain ⟨pA, pC, evp, -, -⟩ := hI.ng.pr.open (n := pn) hpn.symm
            obtain ⟨sn, hsn⟩ : ∃ sn, sn = g.steps.length := ⟨_, rfl⟩
            obtain ⟨sA, sC, evs, -, -⟩ := hI.ng.sp.open (n := sn) hsn.symm
            obtain ⟨fA, fC, evf, -, hown⟩ := hI.fi.open (n := i) hfl
            have hown : wr.ownsRow 0 3 1 (.slice fA i fC) i (fi.flatMap InE.f) := hown
            have k4 := hI.ng.blk.cell 4 rfl
            rw [evp] at k4
            have k7 := hI.ng.blk.cell 7 rfl
            rw [evs] at k7
            have k8 := hI.ng.blk.cell 8 rfl
            rw [evf] at k8
            obtain ⟨i0, hinf, hz0, hz1, hz2⟩ := info_parts Tryz.info3
            have HVF : Hid (vf = .slice fA i fC ∧ fi.length = i) := ⟨evf, hfl⟩
            have hGf : some G ≠ (Value.slice fA i fC).ownBlock := by rw [← evf]; exact fun e => hI.ng.blk.apart hI.fi (by decide) e.symm
            rcases grow_step hgo with ⟨hc, he⟩ | ⟨hc, hs5, g2, hl4, hnext⟩
            · have hii : ¬ (i : Int) < (pn : Int) := by omega
              have hgg : g = gB ∧ fi = first := by cases he; exact ⟨rfl, rfl⟩
              obtain ⟨rfl, rfl⟩ := hgg
              have hend := HEND.out
              have hsn5 : sn ≤ 100000 := by rw [hsn]; exact hend.2.1
              have HSN : Hid (g.steps.length = sn) := hsn.symm
              have HI : Hid (PG W1 v base G ka kw kh kd vp (.int .i64 (np : Int)) VN vs vf nilS g fi wr) := hI
              clear hI hgo evp evs evf hsn hfl hpn hc he hend
              go_wp2_with (at_builtin; refine wpList_append_lies _ rfl _ _ 99 rfl 0 3 i0 _ 1 8 Tryz.underlying99 hinf hz0 hz1 hz2 rfl (by omega) (.slice fA i fC) i (fi.flatMap InE.f) rfl (hown.alloc _) ⟨wr.heap.size, 0, none⟩ 1 1 [.int .i64 (sn : Int)] rfl rfl (World.news_of_block (cs := #[.int .i64 (sn : Int)]) (t := 3) (fr := (0, 0)) (heap_alloc_new wr _)) (by intro u hu; simp at hu; rw [hu]; rfl) (by omega) (by unfold maxLen; omega) (by omega) (by simp) (wr.heap.size + 1) (by simp) ?_)
              intro gg cap2 w9 hown9 hgrow hat hltt
              have hI9 := HI.out.no ((Mod.refl _ _).alloc (Obj.cells #[.int .i64 (sn : Int)] 3))
              have hr9 : Row InE w9 (.slice (some ⟨gg, 0, none⟩) (i + 1) cap2) (fi ++ [g.steps.length]) := app_row HVF.out.2 (by rw [HSN.out]; rfl) hown9
              have hf9 : Fresh (wr.alloc (Obj.cells #[.int .i64 (sn : Int)] 3)) vf (.slice (some ⟨gg, 0, none⟩) (i + 1) cap2) := app_fresh (H := wr.heap.size + 1) (by rw [HVF.out.1]; exact hat) (by simp)
              have hG9 : Blk w9 G _ 172 := hI9.ng.blk.grown hgrow hGf
              have a8 := hG9.cell 8 rfl
              rw [HVF.out.1] at a8
              have b8 := hG9.free 8
              have HI10 : Hid (PG W1 v base G ka kw kh kd vp (.int .i64 (np : Int)) VN vs (.slice (some ⟨gg, 0, none⟩) (i + 1) cap2) nilS g (fi ++ [g.steps.length]) (w9.setCell ⟨G, 8, none⟩ (.slice (some ⟨gg, 0, none⟩) (i + 1) cap2))) := hI9.more (by rw [HVF.out.1]; exact hgrow) hr9 hf9
              clear hI9 hr9 hf9 hG9 hown9 hgrow hat hltt hown hinf hz0 hz1 hz2 k4 k7 k8 hGf HI
              have h55 := findOnward_any _ v base G ka kw kh kd vp (.int .i64 (np : Int)) VN vs (.slice (some ⟨gg, 0, none⟩) (i + 1) cap2) g HI10.out.ng HEND.out.1 HEND.out.2.1 HEND.out.2.2.1
              go_wp2_with fail
              clear a8 b8
              refine h55.mono ?_
              rintro e w5 ⟨rfl, vo, hF⟩
              have hP := HI10.out
              generalize w9.setCell ⟨G, 8, none⟩ (.slice (some ⟨gg, 0, none⟩) (i + 1) cap2) = W3 at hP hF HI10 h55
              clear h55
              have hfi : Row InE w5 (.slice (some ⟨gg, 0, none⟩) (i + 1) cap2) (fi ++ [g.steps.length]) := hP.fi.mod hF.md (fun q hq e => hP.ng.blk.apart hP.fi (by decide) (by rw [hq, e]))
              have hmd : Mod No W1 w5 := hP.md.trans' hF.md (fun q hq e => by have := hP.oG; omega)
              have hR5 : Blk w5 (w.heap.size + 1) [nilS, nilS, nilS, nilS, nilS, .int .i64 0, nilS, nilS, nilS, nilS] 172 := HW1.out.2.2.mod hmd (fun x => x)
              obtain ⟨p1, p2, p3, ep⟩ := hF.ng.pr.sl
              obtain ⟨q1, q2, q3, eq⟩ := hF.ng.nu.sl
              obtain ⟨s1, s2, s3, es⟩ := hF.ng.sp.sl
              obtain ⟨o1, o2, o3, eo⟩ := hF.on.sl
              have HEQ : Hid (vp = .slice p1 p2 p3 ∧ VN = .slice q1 q2 q3 ∧ vs = .slice s1 s2 s3 ∧ vo = .slice o1 o2 o3) := ⟨ep, eq, es, eo⟩
              have HFA : Hid (Mod No W1 w5 ∧ Row InE w5 (.slice (some ⟨gg, 0, none⟩) (i + 1) cap2) (fi ++ [g.steps.length]) ∧ FO W3 v base G ka kw kh kd vp (.int .i64 (np : Int)) VN vs (.slice (some ⟨gg, 0, none⟩) (i + 1) cap2) vo g on w5) := ⟨hmd, hfi, hF⟩
              have hB5 := hF.ng.blk
              rw [HE.out.1, HE.out.2.1, HE.out.2.2.1, HE.out.2.2.2, ep, eq, es, eo] at hB5
              have t0 := hB5.cell 0 rfl
              have t1 := hB5.cell 1 rfl
              have t2 := hB5.cell 2 rfl
              have t3 := hB5.cell 3 rfl
              have t4 := hB5.cell 4 rfl
              have t5 := hB5.cell 5 rfl
              have t6 := hB5.cell 6 rfl
              have t7 := hB5.cell 7 rfl
              have t8 := hB5.cell 8 rfl
              have t9 := hB5.cell 9 rfl
              have u0 := hR5.cell 0 rfl
              have u1 := hR5.cell 1 rfl
              have u2 := hR5.cell 2 rfl
              have u3 := hR5.cell 3 rfl
              have u4 := hR5.cell 4 rfl
              have u5 := hR5.cell 5 rfl
              have u6 := hR5.cell 6 rfl
              have u7 := hR5.cell 7 rfl
              have u8 := hR5.cell 8 rfl
              have u9 := hR5.cell 9 rfl
              have x0 := hR5.free 0
              have x1 := hR5.free 1
              have x2 := hR5.free 2
              have x3 := hR5.free 3
              have x4 := hR5.free 4
              have x5 := hR5.free 5
              have x6 := hR5.free 6
              have x7 := hR5.free 7
              have x8 := hR5.free 8
              have x9 := hR5.free 9
              have HR5 : Hid (Blk w5 (w.heap.size + 1) [nilS, nilS, nilS, nilS, nilS, .int .i64 0, nilS, nilS, nilS, nilS] 172) := hR5
              clear hP hF hfi hmd hB5 hR5 HI10 ep eq es eo
              go_wp2
              clear u0 u1 u2 u3 u4 u5 u6 u7 u8 u9 x0 x1 x2 x3 x4 x5 x6 x7 x8 x9 t0 t1 t2 t3 t4 t5 t6 t7 t8 t9
              have hR9 := (((((((((HR5.out.set 0 (.slice a1 n c1)).set 1 (.slice a2 n2 c2)).set 2 (.slice a3 n3 c3)).set 3 (.slice a4 n4 c4)).set 4 (.slice p1 p2 p3)).set 5 (.int .i64 (np : Int))).set 6 (.slice q1 q2 q3)).set 7 (.slice s1 s2 s3)).set 8 (.slice (some ⟨gg, 0, none⟩) (i + 1) cap2)).set 9 (.slice o1 o2 o3)
              have hm9 := ((((((((((Mod.refl (fun q => q = w.heap.size + 1) w5).setCell (a := ⟨w.heap.size + 1, 0, none⟩) (fun _ => rfl) (.slice a1 n c1)).setCell (a := ⟨w.heap.size + 1, 1, none⟩) (fun _ => rfl) (.slice a2 n2 c2)).setCell (a := ⟨w.heap.size + 1, 2, none⟩) (fun _ => rfl) (.slice a3 n3 c3)).setCell (a := ⟨w.heap.size + 1, 3, none⟩) (fun _ => rfl) (.slice a4 n4 c4)).setCell (a := ⟨w.heap.size + 1, 4, none⟩) (fun _ => rfl) (.slice p1 p2 p3)).setCell (a := ⟨w.heap.size + 1, 5, none⟩) (fun _ => rfl) (.int .i64 (np : Int))).setCell (a := ⟨w.heap.size + 1, 6, none⟩) (fun _ => rfl) (.slice q1 q2 q3)).setCell (a := ⟨w.heap.size + 1, 7, none⟩) (fun _ => rfl) (.slice s1 s2 s3)).setCell (a := ⟨w.heap.size + 1, 8, none⟩) (fun _ => rfl) (.slice (some ⟨gg, 0, none⟩) (i + 1) cap2)).setCell (a := ⟨w.heap.size + 1, 9, none⟩) (fun _ => rfl) (.slice o1 o2 o3)
              generalize (((((((((w5.setCell ⟨w.heap.size + 1, 0, none⟩ (.slice a1 n c1)).setCell ⟨w.heap.size + 1, 1, none⟩ (.slice a2 n2 c2)).setCell ⟨w.heap.size + 1, 2, none⟩ (.slice a3 n3 c3)).setCell ⟨w.heap.size + 1, 3, none⟩ (.slice a4 n4 c4)).setCell ⟨w.heap.size + 1, 4, none⟩ (.slice p1 p2 p3)).setCell ⟨w.heap.size + 1, 5, none⟩ (.int .i64 (np : Int))).setCell ⟨w.heap.size + 1, 6, none⟩ (.slice q1 q2 q3)).setCell ⟨w.heap.size + 1, 7, none⟩ (.slice s1 s2 s3)).setCell ⟨w.heap.size + 1, 8, none⟩ (.slice (some ⟨gg, 0, none⟩) (i + 1) cap2)).setCell ⟨w.heap.size + 1, 9, none⟩ (.slice o1 o2 o3) = W9 at hR9 hm9 ⊢
              have z0 := hR9.cell 0 rfl
              have z1 := hR9.cell 1 rfl
              have z2 := hR9.cell 2 rfl
              have z3 := hR9.cell 3 rfl
              have z4 := hR9.cell 4 rfl
              have z5 := hR9.cell 5 rfl
              have z6 := hR9.cell 6 rfl
              have z7 := hR9.cell 7 rfl
              have z8 := hR9.cell 8 rfl
              have z9 := hR9.cell 9 rfl
              have hFF := HFA.out.2.2
              have hst : np = R.st := by rw [HEND.out.2.2.2]; exact HNP.out
              refine bodyPost_ret (v := .agg #[.slice a1 n c1, .slice a2 n2 c2, .slice a3 n3 c3, .slice a4 n4 c4, .slice p1 p2 p3, .int .i64 (np : Int), .slice q1 q2 q3, .slice s1 s2 s3, .slice (some ⟨gg, 0, none⟩) (i + 1) cap2, .slice o1 o2 o3]) (by simp [results, Tryz.results64, go_sem, z0, z1, z2, z3, z4, z5, z6, z7, z8, z9]) rfl ?_
              have hS : Safe (fun q => q = w.heap.size + 1) w5 172 172 := Safe.one HR5.out
              have hVP := hFF.ng.vw.far hm9 hS (by decide) (by decide)
              rw [HE.out.1, HE.out.2.1, HE.out.2.2.1, HE.out.2.2.2] at hVP
              refine ⟨(HW1.out.1.no HFA.out.1).trans' hm9 (fun q hq e => by omega), vp, VN, vs, .slice (some ⟨gg, 0, none⟩) (i + 1) cap2, vo, by rw [← hst, HEQ.out.1, HEQ.out.2.1, HEQ.out.2.2.1, HEQ.out.2.2.2], hVP, ?_, hFF.ng.nu.sl, ?_, ?_, ?_⟩
              · rw [HEND.out.2.2.2]; exact hFF.ng.pr.safe hm9 hS (by decide) (by decide)
              · rw [HEND.out.2.2.2]; exact hFF.ng.sp.safe hm9 hS (by decide) (by decide)
              · rw [HEND.out.2.2.2]; exact HFA.out.2.1.safe hm9 hS (by decide) (by decide)
              · rw [HEND.out.2.2.2]; exact hFF.on.safe hm9 hS (by decide) (by decide)
            · have HL4 : Hid (M3.lead4 v i 4 g = some g2) := hl4
              have HNX : Hid (M3.grow v f (i + 1) g2 (fi ++ [g.steps.length]) = some (gB, first)) := hnext
              have hii : (i : Int) < (pn : Int) := by omega
              have HSN : Hid (g.steps.length = sn) := hsn.symm
              have hsn5 : sn ≤ 100000 := by omega
              clear hI hgo evp evs evf hl4 hnext hsn hfl hpn hc hs5
              go_wp2_with (at_builtin; refine wpList_append_lies _ rfl _ _ 99 rfl 0 3 i0 _ 1 8 Tryz.underlying99 hinf hz0 hz1 hz2 rfl (by omega) (.slice fA i fC) i (fi.flatMap InE.f) rfl (hown.alloc _) ⟨wr.heap.size, 0, none⟩ 1 1 [.int .i64 (sn : Int)] rfl rfl (World.news_of_block (cs := #[.int .i64 (sn : Int)]) (t := 3) (fr := (0, 0)) (heap_alloc_new wr _)) (by intro u hu; simp at hu; rw [hu]; rfl) (by omega) (by unfold maxLen; omega) (by omega) (by simp) (wr.heap.size + 1) (by simp) ?_)
              intro gg cap2 w9 hown9 hgrow hat hltt
              have hI9 := HI.out.no ((Mod.refl _ _).alloc (Obj.cells #[.int .i64 (sn : Int)] 3))
              have hr9 : Row InE w9 (.slice (some ⟨gg, 0, none⟩) (i + 1) cap2) (fi ++ [g.steps.length]) := app_row HVF.out.2 (by rw [HSN.out]; rfl) hown9
              have hf9 : Fresh (wr.alloc (Obj.cells #[.int .i64 (sn : Int)] 3)) vf (.slice (some ⟨gg, 0, none⟩) (i + 1) cap2) := app_fresh (H := wr.heap.size + 1) (by rw [HVF.out.1]; exact hat) (by simp)
              have hG9 : Blk w9 G _ 172 := hI9.ng.blk.grown hgrow hGf
              have a8 := hG9.cell 8 rfl
              rw [HVF.out.1] at a8
              have b8 := hG9.free 8
              have HI10 : Hid (PG W1 v base G ka kw kh kd vp (.int .i64 (np : Int)) VN vs (.slice (some ⟨gg, 0, none⟩) (i + 1) cap2) nilS g (fi ++ [g.steps.length]) (w9.setCell ⟨G, 8, none⟩ (.slice (some ⟨gg, 0, none⟩) (i + 1) cap2))) := hI9.more (by rw [HVF.out.1]; exact hgrow) hr9 hf9
              clear hI9 hr9 hf9 hG9 hown9 hgrow hat hltt hown hinf hz0 hz1 hz2 k4 k7 k8 hGf HI
              go_wp2_with fail
              clear a8 b8
              generalize w9.setCell ⟨G, 8, none⟩ (.slice (some ⟨gg, 0, none⟩) (i + 1) cap2) = W3 at HI10 ⊢
              generalize (Value.slice (some ⟨gg, 0, none⟩) (i + 1) cap2) = VF at HI10
              go_loopg [9] 4 (fun gh v9 wr => ∃ (l : Nat) (vp vs : Value) (g : M3.Gr), l ≤ 4 ∧ gh = 4 - l ∧ v9 = .int .i64 (l : Int) ∧ M3.lead4 v i gh g = some g2 ∧ PG W1 v base G ka kw kh kd vp (.int .i64 (np : Int)) VN vs VF nilS g (fi ++ [sn]) wr)
              case atStart => exact ⟨0, vp, vs, g, by omega, rfl, rfl, HL4.out, by rw [← HSN.out]; exact HI10.out⟩
              case round =>
                clear HI10 HL4
                obtain ⟨l, vp, vs, g3, hl4, hgl, rfl, hgo, hI⟩ := hrel
                have HI : Hid (PG W1 v base G ka kw kh kd vp (.int .i64 (np : Int)) VN vs VF nilS g3 (fi ++ [sn]) wr) := hI
                by_cases hll : l < 4
                · obtain ⟨c, hc⟩ : ∃ c, gk = c + 1 := ⟨4 - (l + 1), by omega⟩
                  rw [hc] at hgo
                  obtain ⟨g4, hle, hgo2⟩ := lead4_step hgo
                  have hcl : 3 - c = l := by omega
                  rw [hcl] at hle
                  have h54 := lead_any' wr v base G ka kw kh kd vp (.int .i64 (np : Int)) VN vs VF nilS g3 hI.ng hI.ok i l hll (by omega) hle
                  have HG2 : Hid (M3.lead4 v i c g4 = some g2) := hgo2
                  have HC2 : Hid (c = 4 - (l + 1)) := by show c = 4 - (l + 1); omega
                  have hli : (l : Int) < 4 := by omega
                  clear hI hgo hle hgo2 hc hcl
                  go_wp2_with fail
                  refine h54.mono ?_
                  rintro e w8 ⟨rfl, vp3, vs3, hL8⟩
                  have HI8 : Hid (PG W1 v base G ka kw kh kd vp3 (.int .i64 (np : Int)) VN vs3 VF nilS g4 (fi ++ [sn]) w8) := HI.out.lead hL8
                  clear h54 hL8 HI
                  go_wp2
                  go_roundg (4 - (l + 1))
                  case measure => omega
                  case rel => exact ⟨l + 1, vp3, vs3, g4, by omega, rfl, by go_num, by rw [← HC2.out]; exact HG2.out, HI8.out⟩
                · have hl2 : l = 4 := by omega
                  subst hl2
                  rw [hgl, Nat.sub_self] at hgo
                  have HG : Hid (g3 = g2) := Option.some.inj hgo
                  clear hI hgo hgl hl4 hll
                  go_wp2
                  go_roundg f
                  case measure => omega
                  case rel => exact ⟨i + 1, vp, vs, VF, g2, fi ++ [sn], by go_num, by omega, by simp [HVF.out.2], by rw [← HSN.out]; exact HNX.out, by rw [← HG.out]; exact HI.out⟩
end Go.Proofs.YtmbapmbpnnaanabGreatDoor
