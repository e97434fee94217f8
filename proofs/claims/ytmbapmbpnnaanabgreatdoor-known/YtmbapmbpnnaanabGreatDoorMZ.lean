import Derived.Test.YtmbapmbpnnaanabGreatDoorMX
namespace Go.Proofs.YtmbapmbpnnaanabGreatDoor
open Go.RowKit
attribute [local go_sem ↓] Go.wp_at_zero Go.wp_at_succ

set_option maxHeartbeats 1600000 in
set_option maxRecDepth 100000 in
theorem lead_any' (w : World) (v : M2.View) (base G : Nat) (ka kw kh kd vp c5 vn vs c8 c9 : Value) (g : M3.Gr) (h : NG v base G ka kw kh kd vp c5 vn vs c8 c9 g.pairs g.nums g.steps w) (hok : GOk v.k.ahead.length g) (fr l : Nat) (hl : l < 4) (hfr : fr ≤ 100000) {g' : M3.Gr} (hM : M3.lead v fr l g = some g') :
    Calls Tryz.prog 100 #[.pointer (some ⟨G, 0, none⟩), .int .i64 (fr : Int), .int .i64 (l : Int)] w fun e w' => e = .returned (.tuple #[]) ∧ ∃ vp' vs', LG w v base G ka kw kh kd vp c5 vn vs c8 c9 vp' vs' g' w' := by
  obtain ⟨n, hn⟩ : ∃ n, n = v.k.ahead.length := ⟨_, rfl⟩
  have hn24 : n ≤ 24 := by rw [hn]; exact h.vw.n24
  unfold M3.lead at hM
  cases hp : g.pairs[fr]? with
  | none => rw [hp] at hM; cases hM
  | some p =>
    rw [hp] at hM
    dsimp only at hM
    split at hM
    · rename_i hpk
      rw [← hn] at hM hpk
      obtain ⟨a1, c1, e1, -, -⟩ := h.vw.ah.open hn.symm
      obtain ⟨a2, c2, e2, -, -⟩ := h.vw.wo.open rfl
      obtain ⟨a3, c3, e3, -, -⟩ := h.vw.hi.open (n := n) (by rw [h.vw.nh]; exact hn.symm)
      obtain ⟨a4, c4, e4, -, -⟩ := h.vw.de.open (n := n) (by rw [h.vw.ok.len]; exact hn.symm)
      generalize v.k.words.length = NW at e2
      have H78 : Hid (∀ (wx : World) (kind tc : Nat), VP v base ka kw kh kd wx → kind < n → tc < 4 → Calls Tryz.prog 130 #[.agg #[.slice a1 n c1, .slice a2 NW c2, .slice a3 n c3, .slice a4 n c4], .int .i64 (kind : Int), .int .i64 (tc : Int), .int .i64 (l : Int)] wx fun e w' => e = .returned (.tuple #[.string ⟨(M2.vstep v kind tc l).1.toArray⟩, .int .i64 ((M2.vstep v kind tc l).2 : Int)]) ∧ Mod No wx w') := fun wx kind tc hx hk ht => by
        have := vstep_any wx ka kw kh kd v kind tc l hx.ah.sl hx.wo.sl hx.hi.sl hx.de hl (by rw [hx.ok.len]; omega) (by omega) (by have := hx.ok.len; have := hx.n24; omega) (fun d hd => by have := (hx.ok.tak d hd).1; omega)
        rwa [e1, e2, e3, e4] at this
      obtain ⟨pn, hpn⟩ : ∃ pn, pn = g.pairs.length := ⟨_, rfl⟩
      obtain ⟨gp, cp, evp, -, -⟩ := h.pr.form (by have := (List.getElem?_eq_some_iff.1 hp).1; omega)
      rw [← hpn] at evp
      have hfp : fr < pn := by have := (List.getElem?_eq_some_iff.1 hp).1; omega
      have hvl1 := vstep_lt v h.vw.ok p.x p.s l hpk.2.1
      have hvl2 := vstep_lt v h.vw.ok p.y p.t l hpk.2.2.2
      have HI0 : Hid (LG w v base G ka kw kh kd vp c5 vn vs c8 c9 vp vs g w) := ⟨h, Fresh.refl _ _, Fresh.refl _ _, Mod.refl _ _, hok⟩
      have HM : Hid (M3.leadX n fr l p (M2.vstep v p.x p.s l) (M2.vstep v p.y p.t l) v.k.ahead (v.k.ahead.drop 0) 0 g = some g') := hM
      have HE : Hid (ka = .slice a1 n c1 ∧ kw = .slice a2 NW c2 ∧ kh = .slice a3 n c3 ∧ kd = .slice a4 n c4) := ⟨e1, e2, e3, e4⟩
      have HN : Hid (n = v.k.ahead.length) := hn
      have HV : Hid (VOk v) := h.vw.ok
      have hrp := h.pr
      rw [evp] at hrp
      have q0 : w.cell? ⟨gp, fr * 4, none⟩ = some (.int .i64 (p.x : Int)) := hrp.cell fr 0 hp rfl
      have q1 : w.cell? ⟨gp, fr * 4 + 1, none⟩ = some (.int .i64 (p.s : Int)) := hrp.cell fr 1 hp rfl
      have q2 : w.cell? ⟨gp, fr * 4 + 2, none⟩ = some (.int .i64 (p.y : Int)) := hrp.cell fr 2 hp rfl
      have q3 : w.cell? ⟨gp, fr * 4 + 3, none⟩ = some (.int .i64 (p.t : Int)) := hrp.cell fr 3 hp rfl
      have k4 := h.blk.cell 4 rfl
      rw [evp] at k4
      have hfi : (fr : Int) < (pn : Int) := by omega
      obtain ⟨px, ps, py, pt⟩ := p
      simp only at hpk hvl1 hvl2 HM q0 q1 q2 q3
      obtain ⟨sa, hsa⟩ : ∃ sa, sa = M2.vstep v px ps l := ⟨_, rfl⟩
      obtain ⟨sb, hsb⟩ : ∃ sb, sb = M2.vstep v py pt l := ⟨_, rfl⟩
      have h781 := fun wx hx => H78.out wx px ps hx hpk.1 hpk.2.1
      have h782 := fun wx hx => H78.out wx py pt hx hpk.2.2.1 hpk.2.2.2
      rw [← hsa] at h781 hvl1
      rw [← hsb] at h782 hvl2
      rw [← hsa, ← hsb] at HM
      have H781 : Hid (∀ wx, VP v base ka kw kh kd wx → Calls Tryz.prog 130 #[.agg #[.slice a1 n c1, .slice a2 NW c2, .slice a3 n c3, .slice a4 n c4], .int .i64 (px : Int), .int .i64 (ps : Int), .int .i64 (l : Int)] wx fun e w' => e = .returned (.tuple #[.string ⟨sa.1.toArray⟩, .int .i64 (sa.2 : Int)]) ∧ Mod No wx w') := h781
      have H782 : Hid (∀ wx, VP v base ka kw kh kd wx → Calls Tryz.prog 130 #[.agg #[.slice a1 n c1, .slice a2 NW c2, .slice a3 n c3, .slice a4 n c4], .int .i64 (py : Int), .int .i64 (pt : Int), .int .i64 (l : Int)] wx fun e w' => e = .returned (.tuple #[.string ⟨sb.1.toArray⟩, .int .i64 (sb.2 : Int)]) ∧ Mod No wx w') := h782
      clear h hok hM hp hrp e1 e2 e3 e4 hpn evp hn hsa hsb h781 h782 H78
      go_enter Tryz.func100, Tryz.ntmps100
      go_wp2_with fail
      clear q0 q1 q2 q3 k4
      have HB1 : Hid (LG w v base G ka kw kh kd vp c5 vn vs c8 c9 vp vs g (w.alloc (Obj.cells #[.int .i64 (px : Int), .int .i64 (ps : Int), .int .i64 (py : Int), .int .i64 (pt : Int)] 218)) ∧ Blk (w.alloc (Obj.cells #[.int .i64 (px : Int), .int .i64 (ps : Int), .int .i64 (py : Int), .int .i64 (pt : Int)] 218)) w.heap.size [.int .i64 (px : Int), .int .i64 (ps : Int), .int .i64 (py : Int), .int .i64 (pt : Int)] 218) := ⟨HI0.out.no ((Mod.refl _ _).alloc _), heap_alloc_new w _⟩
      have hvB : ∀ q, vp.ownBlock = some q → q ≠ w.heap.size := fun q e e2 => by have := HI0.out.ng.pr.lt e; omega
      generalize w.alloc (Obj.cells #[.int .i64 (px : Int), .int .i64 (ps : Int), .int .i64 (py : Int), .int .i64 (pt : Int)] 218) = W1 at HB1 ⊢
      have hBw : w.heap.size ≤ w.heap.size := Nat.le_refl _
      generalize hBQ : w.heap.size = B at HB1 hvB ⊢
      have hBw : w.heap.size ≤ B := by omega
      clear hBQ HI0
      have hne : Nonempty (After W1) := ⟨⟨W1, Mod.refl _ _⟩⟩
      have z0 : ∀ x : After W1, x.val.cell? ⟨G, 0, none⟩ = some (.slice a1 n c1) := fun x => by have h := (HB1.out.1.ng.blk.mod x.property (fun y => y)).cell 0 rfl; rw [HE.out.1] at h; exact h
      have z1 : ∀ x : After W1, x.val.cell? ⟨G, 1, none⟩ = some (.slice a2 NW c2) := fun x => by have h := (HB1.out.1.ng.blk.mod x.property (fun y => y)).cell 1 rfl; rw [HE.out.2.1] at h; exact h
      have z2 : ∀ x : After W1, x.val.cell? ⟨G, 2, none⟩ = some (.slice a3 n c3) := fun x => by have h := (HB1.out.1.ng.blk.mod x.property (fun y => y)).cell 2 rfl; rw [HE.out.2.2.1] at h; exact h
      have z3 : ∀ x : After W1, x.val.cell? ⟨G, 3, none⟩ = some (.slice a4 n c4) := fun x => by have h := (HB1.out.1.ng.blk.mod x.property (fun y => y)).cell 3 rfl; rw [HE.out.2.2.2] at h; exact h
      have y0 : ∀ x : After W1, x.val.cell? ⟨B, 0, none⟩ = some (.int .i64 (px : Int)) := fun x => (HB1.out.2.mod x.property (fun y => y)).cell 0 rfl
      have y1 : ∀ x : After W1, x.val.cell? ⟨B, 1, none⟩ = some (.int .i64 (ps : Int)) := fun x => (HB1.out.2.mod x.property (fun y => y)).cell 1 rfl
      have y2 : ∀ x : After W1, x.val.cell? ⟨B, 2, none⟩ = some (.int .i64 (py : Int)) := fun x => (HB1.out.2.mod x.property (fun y => y)).cell 2 rfl
      have y3 : ∀ x : After W1, x.val.cell? ⟨B, 3, none⟩ = some (.int .i64 (pt : Int)) := fun x => (HB1.out.2.mod x.property (fun y => y)).cell 3 rfl
      refine wp_region_calm (by kernel_rfl) (by kernel_rfl) ?_
      repeat (quiet_step (exact Calls.calm (H781.out _ (HB1.out.1.ng.vw.no (Subtype.property _)))))
      refine wpQuiet_nil ?_
      rintro _ ⟨X1, rfl⟩
      have HB2 : Hid (LG w v base G ka kw kh kd vp c5 vn vs c8 c9 vp vs g X1.val ∧ Blk X1.val B [.int .i64 (px : Int), .int .i64 (ps : Int), .int .i64 (py : Int), .int .i64 (pt : Int)] 218) := ⟨HB1.out.1.no X1.property, HB1.out.2.mod X1.property (fun y => y)⟩
      generalize X1.val = W2 at HB2 ⊢
      clear HB1 hne z0 z1 z2 z3 y0 y1 y2 y3 X1 H781
      go_wp2_with fail
      have hne : Nonempty (After W2) := ⟨⟨W2, Mod.refl _ _⟩⟩
      have z0 : ∀ x : After W2, x.val.cell? ⟨G, 0, none⟩ = some (.slice a1 n c1) := fun x => by have h := (HB2.out.1.ng.blk.mod x.property (fun y => y)).cell 0 rfl; rw [HE.out.1] at h; exact h
      have z1 : ∀ x : After W2, x.val.cell? ⟨G, 1, none⟩ = some (.slice a2 NW c2) := fun x => by have h := (HB2.out.1.ng.blk.mod x.property (fun y => y)).cell 1 rfl; rw [HE.out.2.1] at h; exact h
      have z2 : ∀ x : After W2, x.val.cell? ⟨G, 2, none⟩ = some (.slice a3 n c3) := fun x => by have h := (HB2.out.1.ng.blk.mod x.property (fun y => y)).cell 2 rfl; rw [HE.out.2.2.1] at h; exact h
      have z3 : ∀ x : After W2, x.val.cell? ⟨G, 3, none⟩ = some (.slice a4 n c4) := fun x => by have h := (HB2.out.1.ng.blk.mod x.property (fun y => y)).cell 3 rfl; rw [HE.out.2.2.2] at h; exact h
      have y2 : ∀ x : After W2, x.val.cell? ⟨B, 2, none⟩ = some (.int .i64 (py : Int)) := fun x => (HB2.out.2.mod x.property (fun y => y)).cell 2 rfl
      have y3 : ∀ x : After W2, x.val.cell? ⟨B, 3, none⟩ = some (.int .i64 (pt : Int)) := fun x => (HB2.out.2.mod x.property (fun y => y)).cell 3 rfl
      refine wp_region_calm (by kernel_rfl) (by kernel_rfl) ?_
      repeat (quiet_step (exact Calls.calm (H782.out _ (HB2.out.1.ng.vw.no (Subtype.property _)))))
      refine wpQuiet_nil ?_
      rintro _ ⟨X2, rfl⟩
      have HB3 : Hid (LG w v base G ka kw kh kd vp c5 vn vs c8 c9 vp vs g X2.val ∧ Blk X2.val B [.int .i64 (px : Int), .int .i64 (ps : Int), .int .i64 (py : Int), .int .i64 (pt : Int)] 218) := ⟨HB2.out.1.no X2.property, HB2.out.2.mod X2.property (fun y => y)⟩
      generalize X2.val = W3 at HB3 ⊢
      clear HB2 hne z0 z1 z2 z3 y2 y3 X2 H782
      obtain ⟨SA, hSA⟩ : ∃ S, S = (⟨sa.1.toArray⟩ : ByteArray) := ⟨_, rfl⟩
      obtain ⟨SB, hSB⟩ : ∃ S, S = (⟨sb.1.toArray⟩ : ByteArray) := ⟨_, rfl⟩
      have HSS : Hid (SA = (⟨sa.1.toArray⟩ : ByteArray) ∧ SB = (⟨sb.1.toArray⟩ : ByteArray)) := ⟨hSA, hSB⟩
      rw [← hSA, ← hSB]
      clear hSA hSB
      obtain ⟨LA, hLA⟩ : ∃ LA, LA = sa.2 := ⟨_, rfl⟩
      obtain ⟨LB, hLB⟩ : ∃ LB, LB = sb.2 := ⟨_, rfl⟩
      have HLL : Hid (LA = sa.2 ∧ LB = sb.2) := ⟨hLA, hLB⟩
      rw [← hLA, ← hLB]
      rw [← hLA] at hvl1
      rw [← hLB] at hvl2
      clear hLA hLB
      have z0 := HB3.out.1.ng.blk.cell 0 rfl
      rw [HE.out.1] at z0
      go_wp2_with fail
      clear z0
      go_loopg [60] n (fun gh v60 wr => ∃ (x : Nat) (vp1 vs1 : Value) (g1 : M3.Gr), x ≤ n ∧ gh = n - x ∧ v60 = .int .i64 (x : Int) ∧ vp1.ownBlock ≠ some B ∧ M3.leadX n fr l ⟨px, ps, py, pt⟩ sa sb v.k.ahead (v.k.ahead.drop x) x g1 = some g' ∧ LG w v base G ka kw kh kd vp c5 vn vs c8 c9 vp1 vs1 g1 wr ∧ Blk wr B [.int .i64 (px : Int), .int .i64 (ps : Int), .int .i64 (py : Int), .int .i64 (pt : Int)] 218)
      case atStart => exact ⟨0, vp, vs, g, by omega, by omega, rfl, fun e => hvB B e rfl, HM.out, HB3.out.1, HB3.out.2⟩
      case round =>
        clear HB3 HM
        obtain ⟨x, vp1, vs1, g1, hxn, hgk, rfl, hvp1, hgo, hI, hB⟩ := hrel
        have HI : Hid (LG w v base G ka kw kh kd vp c5 vn vs c8 c9 vp1 vs1 g1 wr ∧ Blk wr B [.int .i64 (px : Int), .int .i64 (ps : Int), .int .i64 (py : Int), .int .i64 (pt : Int)] 218) := ⟨hI, hB⟩
        by_cases hlt : x < n
        · obtain ⟨r, hr⟩ : ∃ r, v.k.ahead[x]? = some r := ⟨v.k.ahead[x]'(by have := HN.out; omega), List.getElem?_eq_getElem _⟩
          obtain ⟨k, hk, hcase⟩ := leadX_step hr hgo
          have hra := hI.ng.vw.ah
          rw [HE.out.1] at hra
          obtain ⟨ga, hga⟩ : ∃ g, a1 = some ⟨g, 0, none⟩ := by
            obtain ⟨g2, c2, h2, -⟩ := hI.ng.vw.ah.form (by have := HN.out; omega)
            rw [HE.out.1] at h2
            injection h2 with h2 _
            exact ⟨g2, h2⟩
          subst hga
          have r0 : wr.cell? ⟨ga, x * 4, none⟩ = some (.int .i64 (r.a : Int)) := hra.cell x 0 hr rfl
          have r1 : wr.cell? ⟨ga, x * 4 + 1, none⟩ = some (.int .i64 (r.b : Int)) := hra.cell x 1 hr rfl
          have r2 : wr.cell? ⟨ga, x * 4 + 2, none⟩ = some (.int .i64 (r.c : Int)) := hra.cell x 2 hr rfl
          have r3 : wr.cell? ⟨ga, x * 4 + 3, none⟩ = some (.int .i64 (r.d : Int)) := hra.cell x 3 hr rfl
          obtain ⟨W4, hW4⟩ : ∃ W4, wr.alloc (Obj.cells #[.int .i64 (r.a : Int), .int .i64 (r.b : Int), .int .i64 (r.c : Int), .int .i64 (r.d : Int)] 106) = W4 := ⟨_, rfl⟩
          have hQ : Blk W4 wr.heap.size [.int .i64 (r.a : Int), .int .i64 (r.b : Int), .int .i64 (r.c : Int), .int .i64 (r.d : Int)] 106 := by rw [← hW4]; exact heap_alloc_new wr _
          have HI4 : Hid (LG w v base G ka kw kh kd vp c5 vn vs c8 c9 vp1 vs1 g1 W4 ∧ Blk W4 B [.int .i64 (px : Int), .int .i64 (ps : Int), .int .i64 (py : Int), .int .i64 (pt : Int)] 218) := by rw [← hW4]; exact ⟨hI.no ((Mod.refl _ _).alloc _), hB.alloc _⟩
          have cQ : W4.cell? ⟨wr.heap.size, l, none⟩ = some (.int .i64 (k : Int)) := hQ.cell l (by have q := r4c_get' r l hl; rw [hk] at q; exact q)
          have cB := HI4.out.2.cell 0 rfl
          have hxi : (x : Int) < (n : Int) := by omega
          have hli : (l : Int) < 4 := by omega
          clear hI hB hra hr hgo hQ hk
          go_wp2_with fail
          clear hW4 r0 r1 r2 r3 HI
          rcases hcase with ⟨rfl, g2, hY, hX⟩ | ⟨hne, hX⟩
          · have HYY : Hid (M3.leadY n fr l ⟨k, ps, py, pt⟩ sa sb x (v.k.ahead.drop 0) 0 g1 = some g2) := hY
            have HXX : Hid (M3.leadX n fr l ⟨k, ps, py, pt⟩ sa sb v.k.ahead (v.k.ahead.drop (x + 1)) (x + 1) g2 = some g') := hX
            clear hY hX
            go_quiet (fail)
            have HI5 : Hid (LG w v base G ka kw kh kd vp c5 vn vs c8 c9 vp1 vs1 g1 (W4.drewN nq) ∧ Blk (W4.drewN nq) B [.int .i64 (k : Int), .int .i64 (ps : Int), .int .i64 (py : Int), .int .i64 (pt : Int)] 218) := ⟨HI4.out.1.no ((Mod.refl _ _).drewN _), HI4.out.2.drewN _⟩
            generalize W4.drewN nq = W5 at HI5 ⊢
            clear HI4 cQ cB
            have z0 := HI5.out.1.ng.blk.cell 0 rfl
            rw [HE.out.1] at z0
            go_wp2_with fail
            clear z0
            generalize wr.heap.size = Q1
            go_loopg [79] n (fun gh v79 wr => ∃ (y : Nat) (vp2 vs2 : Value) (g3 : M3.Gr), y ≤ n ∧ gh = n - y ∧ v79 = .int .i64 (y : Int) ∧ vp2.ownBlock ≠ some B ∧ M3.leadY n fr l ⟨k, ps, py, pt⟩ sa sb x (v.k.ahead.drop y) y g3 = some g2 ∧ LG w v base G ka kw kh kd vp c5 vn vs c8 c9 vp2 vs2 g3 wr ∧ Blk wr B [.int .i64 (k : Int), .int .i64 (ps : Int), .int .i64 (py : Int), .int .i64 (pt : Int)] 218)
            case atStart => exact ⟨0, vp1, vs1, g1, by omega, by omega, rfl, hvp1, HYY.out, HI5.out.1, HI5.out.2⟩
            case round =>
              clear HI5 HYY
              obtain ⟨y, vp2, vs2, g3, hyn, hgy, rfl, hvp2, hgo, hI, hB⟩ := hrel
              have HI : Hid (LG w v base G ka kw kh kd vp c5 vn vs c8 c9 vp2 vs2 g3 wr ∧ Blk wr B [.int .i64 (k : Int), .int .i64 (ps : Int), .int .i64 (py : Int), .int .i64 (pt : Int)] 218) := ⟨hI, hB⟩
              by_cases hly : y < n
              · obtain ⟨r, hr⟩ : ∃ r, v.k.ahead[y]? = some r := ⟨v.k.ahead[y]'(by have := HN.out; omega), List.getElem?_eq_getElem _⟩
                obtain ⟨kk, hk, hcase⟩ := leadY_step hr hgo
                have hra := hI.ng.vw.ah
                rw [HE.out.1] at hra
                have r0 : wr.cell? ⟨ga, y * 4, none⟩ = some (.int .i64 (r.a : Int)) := hra.cell y 0 hr rfl
                have r1 : wr.cell? ⟨ga, y * 4 + 1, none⟩ = some (.int .i64 (r.b : Int)) := hra.cell y 1 hr rfl
                have r2 : wr.cell? ⟨ga, y * 4 + 2, none⟩ = some (.int .i64 (r.c : Int)) := hra.cell y 2 hr rfl
                have r3 : wr.cell? ⟨ga, y * 4 + 3, none⟩ = some (.int .i64 (r.d : Int)) := hra.cell y 3 hr rfl
                obtain ⟨W6, hW6⟩ : ∃ W6, wr.alloc (Obj.cells #[.int .i64 (r.a : Int), .int .i64 (r.b : Int), .int .i64 (r.c : Int), .int .i64 (r.d : Int)] 106) = W6 := ⟨_, rfl⟩
                have hQ : Blk W6 wr.heap.size [.int .i64 (r.a : Int), .int .i64 (r.b : Int), .int .i64 (r.c : Int), .int .i64 (r.d : Int)] 106 := by rw [← hW6]; exact heap_alloc_new wr _
                have HI6 : Hid (LG w v base G ka kw kh kd vp c5 vn vs c8 c9 vp2 vs2 g3 W6 ∧ Blk W6 B [.int .i64 (k : Int), .int .i64 (ps : Int), .int .i64 (py : Int), .int .i64 (pt : Int)] 218) := by rw [← hW6]; exact ⟨hI.no ((Mod.refl _ _).alloc _), hB.alloc _⟩
                have cQ : W6.cell? ⟨wr.heap.size, l, none⟩ = some (.int .i64 (kk : Int)) := hQ.cell l (by have q := r4c_get' r l hl; rw [hk] at q; exact q)
                have cB := HI6.out.2.cell 2 rfl
                have hyi : (y : Int) < (n : Int) := by omega
                clear hI hB hra hr hgo hQ hk
                go_wp2_with fail
                clear hW6 r0 r1 r2 r3 HI
                rcases hcase with ⟨hkp, hg5, hs5, tt, ps', ns', hgn, hY⟩ | ⟨hne, hY⟩
                · obtain rfl : kk = py := hkp
                  have HYY : Hid (M3.leadY n fr l ⟨k, ps, kk, pt⟩ sa sb x (v.k.ahead.drop (y + 1)) (y + 1) ⟨ps', ns', g3.steps ++ [⟨fr, tt, l, sa.1, sb.1⟩]⟩ = some g2) := hY
                  have HGN : Hid (M3.gnum v.k.ahead.length g3.pairs g3.nums ⟨x, LA, y, LB⟩ = some (tt, ps', ns')) := by
                    show M3.gnum v.k.ahead.length g3.pairs g3.nums ⟨x, LA, y, LB⟩ = some (tt, ps', ns')
                    rw [← HN.out, HLL.out.1, HLL.out.2]; exact hgn
                  clear hY hgn
                  go_quiet (fail)
                  have HI7 : Hid (LG w v base G ka kw kh kd vp c5 vn vs c8 c9 vp2 vs2 g3 (W6.drewN nq) ∧ Blk (W6.drewN nq) B [.int .i64 (k : Int), .int .i64 (ps : Int), .int .i64 (kk : Int), .int .i64 (pt : Int)] 218) := ⟨HI6.out.1.no ((Mod.refl _ _).drewN _), HI6.out.2.drewN _⟩
                  generalize W6.drewN nq = W7 at HI7 ⊢
                  clear HI6 cQ cB
                  have h53 := gnum_any W7 v base G ka kw kh kd vp2 c5 vn vs2 c8 c9 g3.pairs g3.nums g3.steps HI7.out.1.ng ⟨x, LA, y, LB⟩ ⟨by show x < 24; omega, hvl1, by show y < 24; omega, hvl2⟩ (by omega) HI7.out.1.ok.nl (fun u hu => by have := HI7.out.1.ok.nv u hu; omega) HGN.out
                  go_wp2_with fail
                  refine h53.mono ?_
                  rintro e w8 ⟨rfl, vp3, hN8, hf8, hm8⟩
                  have hI8 := HI7.out.1.num HGN.out hN8 hf8 hm8
                  have hB8 : Blk w8 B [.int .i64 (k : Int), .int .i64 (ps : Int), .int .i64 (kk : Int), .int .i64 (pt : Int)] 218 := HI7.out.2.mod hm8 (by
                    rintro (e | e | e)
                    · exact HI7.out.2.diff HI7.out.1.ng.blk (by decide) e
                    · exact hvp2 e
                    · exact HI7.out.2.apart HI7.out.1.ng.nu (by decide) e)
                  have hvp3 : vp3.ownBlock ≠ some B := fun e => by
                    rcases hf8 B e with h | h
                    · exact hvp2 h
                    · have := HI7.out.2.lt; omega
                  have HI8 : Hid (LG w v base G ka kw kh kd vp c5 vn vs c8 c9 vp3 vs2 ⟨ps', ns', g3.steps⟩ w8 ∧ Blk w8 B [.int .i64 (k : Int), .int .i64 (ps : Int), .int .i64 (kk : Int), .int .i64 (pt : Int)] 218) := ⟨hI8, hB8⟩
                  obtain ⟨sn, hsn⟩ : ∃ sn, sn = g3.steps.length := ⟨_, rfl⟩
                  obtain ⟨sA, sC, evs, -, hown⟩ := hI8.ng.sp.open (n := sn) hsn.symm
                  have hown : w8.ownsRow 0 229 5 (.slice sA sn sC) sn (g3.steps.flatMap SpE.f) := hown
                  have HVS : Hid (vs2 = .slice sA sn sC ∧ g3.steps.length = sn) := ⟨evs, hsn.symm⟩
                  have k7 := hI8.ng.blk.cell 7 rfl
                  rw [evs] at k7
                  have hGl := hI8.ng.blk.lt
                  have hGs : some G ≠ (Value.slice sA sn sC).ownBlock := by rw [← evs]; exact fun e => hI8.ng.blk.apart hI8.ng.sp (by decide) e.symm
                  obtain ⟨i0, hinf, hz0, hz1, hz2⟩ := info_parts Tryz.info229
                  rw [hsn.symm] at hs5
                  clear h53 hN8 hf8 hm8 hI8 hB8 HI7 evs hsn
                  go_wp2_with (at_builtin; refine wpList_append_lies _ rfl _ _ 170 rfl 0 229 i0 _ 5 56 Tryz.underlying170 hinf hz0 hz1 hz2 rfl (by omega) (.slice sA sn sC) sn (g3.steps.flatMap SpE.f) rfl (hown.alloc _) ⟨w8.heap.size, 0, none⟩ 1 1 [.int .i64 (fr : Int), .int .i64 (tt : Int), .int .i64 (l : Int), .string SA, .string SB] rfl rfl (World.news_of_block (cs := #[.int .i64 (fr : Int), .int .i64 (tt : Int), .int .i64 (l : Int), .string SA, .string SB]) (t := 229) (fr := (0, 0)) (heap_alloc_new w8 _)) (by intro u hu; simp at hu; rcases hu with rfl | rfl | rfl | rfl | rfl <;> rfl) (by omega) (by unfold maxLen; omega) (by omega) (by simp) (w8.heap.size + 1) (by simp) ?_)
                  intro gg cap2 w9 hown9 hgrow hat hltt
                  have hI9 := HI8.out.1.no ((Mod.refl _ _).alloc (Obj.cells #[.int .i64 (fr : Int), .int .i64 (tt : Int), .int .i64 (l : Int), .string SA, .string SB] 229))
                  have hB9 := HI8.out.2.alloc (Obj.cells #[.int .i64 (fr : Int), .int .i64 (tt : Int), .int .i64 (l : Int), .string SA, .string SB] 229)
                  have hr9 : Row SpE w9 (.slice (some ⟨gg, 0, none⟩) (sn + 1) cap2) (g3.steps ++ [⟨fr, tt, l, sa.1, sb.1⟩]) := app_row HVS.out.2 (by rw [HSS.out.1, HSS.out.2]; rfl) hown9
                  have hf9 : Fresh (w8.alloc (Obj.cells #[.int .i64 (fr : Int), .int .i64 (tt : Int), .int .i64 (l : Int), .string SA, .string SB] 229)) vs2 (.slice (some ⟨gg, 0, none⟩) (sn + 1) cap2) := app_fresh (H := w8.heap.size + 1) (by rw [HVS.out.1]; exact hat) (by simp)
                  have hG9 : Blk w9 G _ 172 := hI9.ng.blk.grown hgrow hGs
                  have a7 := hG9.cell 7 rfl
                  rw [HVS.out.1] at a7
                  have b7 := hG9.free 7
                  have hB10 : Blk w9 B [.int .i64 (k : Int), .int .i64 (ps : Int), .int .i64 (kk : Int), .int .i64 (pt : Int)] 218 := hB9.grown hgrow (fun e => hB9.apart hI9.ng.sp (by decide) (by rw [HVS.out.1]; exact e.symm))
                  have HI10 : Hid (LG w v base G ka kw kh kd vp c5 vn vs c8 c9 vp3 (.slice (some ⟨gg, 0, none⟩) (sn + 1) cap2) ⟨ps', ns', g3.steps ++ [⟨fr, tt, l, sa.1, sb.1⟩]⟩ (w9.setCell ⟨G, 7, none⟩ (.slice (some ⟨gg, 0, none⟩) (sn + 1) cap2)) ∧ Blk (w9.setCell ⟨G, 7, none⟩ (.slice (some ⟨gg, 0, none⟩) (sn + 1) cap2)) B [.int .i64 (k : Int), .int .i64 (ps : Int), .int .i64 (kk : Int), .int .i64 (pt : Int)] 218) := ⟨hI9.step (by rw [HVS.out.1]; exact hgrow) hr9 hf9, hB10.other (a := ⟨G, 7, none⟩) (hB10.diff hG9 (by decide)) _⟩
                  clear hI9 hB9 hr9 hf9 hG9 hB10 hown9 hgrow hat hltt hown hinf hz0 hz1 hz2 k7 hGs HI8
                  go_wp2
                  go_roundg (n - (y + 1))
                  case measure => omega
                  case rel => exact ⟨y + 1, vp3, _, _, by omega, rfl, by go_num, hvp3, HYY.out, HI10.out.1, HI10.out.2⟩
                · have hneB : ((kk : Int) == (py : Int)) = false := by have hne2 : kk ≠ py := hne; rw [beq_eq_false_iff_ne]; omega
                  have hneC : ((kk : Int) != (py : Int)) = true := by rw [bne, hneB]; rfl
                  have HYY : Hid (M3.leadY n fr l ⟨k, ps, py, pt⟩ sa sb x (v.k.ahead.drop (y + 1)) (y + 1) g3 = some g2) := hY
                  clear hY hne
                  go_quiet (fail)
                  go_wp2
                  go_roundg (n - (y + 1))
                  case measure => omega
                  case rel => exact ⟨y + 1, vp2, vs2, g3, by omega, rfl, by go_num, hvp2, HYY.out, HI6.out.1.no ((Mod.refl _ _).drewN _), HI6.out.2.drewN _⟩
              · obtain rfl : y = n := by omega
                have e1 : v.k.ahead.drop y = [] := List.drop_of_length_le (by have := HN.out; omega)
                rw [e1] at hgo
                have HG : Hid (g3 = g2) := Option.some.inj hgo
                have hyy : ¬ (y : Int) < (y : Int) := by omega
                clear hI hB hgo e1 hgy hyn hly
                go_wp2
                go_roundg (y - (x + 1))
                case measure => omega
                case rel => exact ⟨x + 1, vp2, vs2, g2, by omega, rfl, by go_num, hvp2, HXX.out, by rw [← HG.out]; exact HI.out.1, HI.out.2⟩
          · have hneB : ((k : Int) == (px : Int)) = false := by have hne2 : k ≠ px := hne; rw [beq_eq_false_iff_ne]; omega
            have hneC : ((k : Int) != (px : Int)) = true := by rw [bne, hneB]; rfl
            have HXX : Hid (M3.leadX n fr l ⟨px, ps, py, pt⟩ sa sb v.k.ahead (v.k.ahead.drop (x + 1)) (x + 1) g1 = some g') := hX
            clear hX hne
            go_quiet (fail)
            go_wp2
            go_roundg (n - (x + 1))
            case measure => omega
            case rel => exact ⟨x + 1, vp1, vs1, g1, by omega, rfl, by go_num, hvp1, HXX.out, HI4.out.1.no ((Mod.refl _ _).drewN _), HI4.out.2.drewN _⟩
        · obtain rfl : x = n := by omega
          have e1 : v.k.ahead.drop x = [] := List.drop_of_length_le (by have := HN.out; omega)
          rw [e1] at hgo
          have HG : Hid (g1 = g') := Option.some.inj hgo
          have hxx : ¬ (x : Int) < (x : Int) := by omega
          clear hI hB hgo e1 hgk hxn hlt
          go_wp2
          go_end0
          exact ⟨rfl, vp1, vs1, by rw [← HG.out]; exact HI.out.1⟩
    · cases hM
end Go.Proofs.YtmbapmbpnnaanabGreatDoor
namespace Go.Proofs.YtmbapmbpnnaanabGreatDoor
open Go.RowKit
attribute [local go_sem ↓] Go.wp_at_zero Go.wp_at_succ

def IzE : Enc Int := ⟨3, 1, fun x => [.int .i64 x], fun _ => rfl⟩
theorem IzE.cell {w : World} {g n cap : Nat} {xs : List Int} (h : Row IzE w (.slice (some ⟨g, 0, none⟩) n cap) xs) {i : Nat} {x : Int} (hx : xs[i]? = some x) : w.cell? ⟨g, i, none⟩ = some (.int .i64 x) := by
  have := h.cell i 0 hx (u := .int .i64 x) rfl
  have e : i * IzE.c + 0 = i := by show i * 1 + 0 = i; omega
  rwa [e] at this
theorem IzE.put {w : World} {g n cap : Nat} {xs : List Int} (h : Row IzE w (.slice (some ⟨g, 0, none⟩) n cap) xs) {i : Nat} {x : Int} (y : Int) (hx : xs[i]? = some x) : Row IzE (w.setCell ⟨g, i, none⟩ (.int .i64 y)) (.slice (some ⟨g, 0, none⟩) n cap) (xs.set i y) := by
  have := h.put i 0 hx (x' := y) (u := .int .i64 y) (by decide) rfl
  have e : i * IzE.c + 0 = i := by show i * 1 + 0 = i; omega
  rwa [e] at this
theorem str_nil (a : List UInt8) : (⟨a.toArray⟩ : ByteArray).toList.isEmpty = a.isEmpty := by
  rw [toList_data]

set_option maxHeartbeats 1600000 in
theorem silent_any (w : World) (s : M2.Stp) : Calls Tryz.prog 147 #[.agg #[.int .i64 (s.fr : Int), .int .i64 (s.tt : Int), .int .i64 (s.l : Int), .string ⟨s.s0.toArray⟩, .string ⟨s.s1.toArray⟩]] w fun e w' => e = .returned (.bool (M2.silent s)) ∧ Mod No w w' := by
  have e0 := str_nil s.s0
  have e1 := str_nil s.s1
  unfold M2.silent
  generalize (⟨s.s0.toArray⟩ : ByteArray) = A at *
  generalize (⟨s.s1.toArray⟩ : ByteArray) = B at *
  have HM : Hid (∀ o, Mod No w (w.alloc o)) := fun o => (Mod.refl _ _).alloc o
  have HB : Hid (B.toList.isEmpty = s.s1.isEmpty) := e1
  clear e1
  cases hb : s.s0.isEmpty with
  | false =>
    rw [hb] at e0
    have e2 : ¬ A.toList = [] := fun e => by rw [e] at e0; cases e0
    go_enter Tryz.func147, Tryz.ntmps147
    go_wp2
    go_ret
    exact ⟨rfl, HM.out _⟩
  | true =>
    rw [hb] at e0
    have e2 : A.toList = [] := by simpa using e0
    go_enter Tryz.func147, Tryz.ntmps147
    go_wp2
    go_ret
    exact ⟨by rw [← HB.out]; rfl, HM.out _⟩
end Go.Proofs.YtmbapmbpnnaanabGreatDoor
