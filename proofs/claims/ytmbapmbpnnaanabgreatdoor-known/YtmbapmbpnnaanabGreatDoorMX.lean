import Derived.Test.YtmbapmbpnnaanabGreatDoorMV
namespace Go.Proofs.YtmbapmbpnnaanabGreatDoor.M3
open Go.Proofs.YtmbapmbpnnaanabGreatDoor.M2
/-- Of a pair its place among all that there may be: so many kinds. -/
def placeOf (n : Nat) (p : Pair) : Nat := (p.x * 4 + p.s) * (n * 4) + p.y * 4 + p.t
def gnum (n : Nat) (pairs : List Pair) (nums : List Nat) (p : Pair) : Option (Nat × List Pair × List Nat) :=
  match nums[placeOf n p]? with
  | none => none
  | some 0 => some (pairs.length, pairs ++ [p], nums.set (placeOf n p) (pairs.length + 1))
  | some (u + 1) => some (u, pairs, nums)
end Go.Proofs.YtmbapmbpnnaanabGreatDoor.M3
namespace Go.Proofs.YtmbapmbpnnaanabGreatDoor
open Go.RowKit
attribute [local go_sem ↓] Go.wp_at_zero Go.wp_at_succ

def PaE : Enc M2.Pair := ⟨218, 4, fun p => [.int .i64 (p.x : Int), .int .i64 (p.s : Int), .int .i64 (p.y : Int), .int .i64 (p.t : Int)], fun _ => rfl⟩
def SpE : Enc M2.Stp := ⟨229, 5, fun s => [.int .i64 (s.fr : Int), .int .i64 (s.tt : Int), .int .i64 (s.l : Int), .string ⟨s.s0.toArray⟩, .string ⟨s.s1.toArray⟩], fun _ => rfl⟩
theorem Tryz.info218 : (Tryz.prog.info? 218).map (fun i => (i.zero, i.size, i.bytes)) = some (some (.agg #[.int .i64 0, .int .i64 0, .int .i64 0, .int .i64 0]), 4, 32) := by kernel_rfl
theorem Tryz.info229 : (Tryz.prog.info? 229).map (fun i => (i.zero, i.size, i.bytes)) = some (some (.agg #[.int .i64 0, .int .i64 0, .int .i64 0, .string ⟨#[]⟩, .string ⟨#[]⟩]), 5, 56) := by kernel_rfl

/-- A graph in its block, as far as pairs are numbered. -/
structure NG (v : M2.View) (base G : Nat) (ka kw kh kd vp c5 vn vs c8 c9 : Value) (pairs : List M2.Pair) (nums : List Nat) (steps : List M2.Stp) (w : World) : Prop where
  blk : Blk w G [ka, kw, kh, kd, vp, c5, vn, vs, c8, c9] 172
  vw : VP v base ka kw kh kd w
  pr : Row PaE w vp pairs
  nu : Row InE w vn nums
  sp : Row SpE w vs steps
section
variable {v : M2.View} {base G : Nat} {ka kw kh kd vp c5 vn vs c8 c9 : Value} {pairs : List M2.Pair} {nums : List Nat} {steps : List M2.Stp} {w w' : World}
theorem NG.no (h : NG v base G ka kw kh kd vp c5 vn vs c8 c9 pairs nums steps w) (hm : Mod No w w') : NG v base G ka kw kh kd vp c5 vn vs c8 c9 pairs nums steps w' := ⟨h.blk.mod hm (fun x => x), h.vw.no hm, h.pr.no hm, h.nu.no hm, h.sp.no hm⟩
theorem VP.far {S : Nat → Prop} {A B : Nat} (h : VP v base ka kw kh kd w) (hm : Mod S w w') (hs : Safe S w A B) (h1 : A ≠ 106 ∧ A ≠ 9 ∧ A ≠ 204 ∧ A ≠ 149) (h2 : B ≠ 106 ∧ B ≠ 9 ∧ B ≠ 204 ∧ B ≠ 149) : VP v base ka kw kh kd w' :=
  ⟨h.ok, h.kok, h.n24, h.nh, h.ah.safe hm hs (show (106 : Nat) ≠ A by omega) (show (106 : Nat) ≠ B by omega), h.wo.safe hm hs (show (9 : Nat) ≠ A by omega) (show (9 : Nat) ≠ B by omega), h.hi.safe hm hs (show (204 : Nat) ≠ A by omega) (show (204 : Nat) ≠ B by omega), h.de.safe hm hs (show (149 : Nat) ≠ A by omega) (show (149 : Nat) ≠ B by omega), h.fa, h.fw, h.fh, h.fd⟩
theorem NG.moreP {w7 : World} {v2 : Value} {p2 : List M2.Pair} (h : NG v base G ka kw kh kd vp c5 vn vs c8 c9 pairs nums steps w) (hg : w.grownBy w7 vp.ownBlock) (hrow : Row PaE w7 v2 p2) : NG v base G ka kw kh kd v2 c5 vn vs c8 c9 p2 nums steps (w7.setCell ⟨G, 4, none⟩ v2) := by
  have hm := grown_mod hg
  have hs : Safe (fun k => vp.ownBlock = some k) w 218 218 := Safe.row h.pr
  have hB := h.blk.safe hm hs (by decide) (by decide)
  have hm2 : Mod (fun k => k = G) w7 (w7.setCell ⟨G, 4, none⟩ v2) := (Mod.refl (fun k => k = G) _).setCell (a := ⟨G, 4, none⟩) (fun _ => rfl) _
  have hs2 := Safe.one hB
  exact ⟨hB.set 4 v2, (h.vw.far hm hs (by decide) (by decide)).far hm2 hs2 (by decide) (by decide), hrow.safe hm2 hs2 (by decide) (by decide), (h.nu.safe hm hs (by decide) (by decide)).safe hm2 hs2 (by decide) (by decide), (h.sp.safe hm hs (by decide) (by decide)).safe hm2 hs2 (by decide) (by decide)⟩
theorem NG.moreS {w7 : World} {v2 : Value} {s2 : List M2.Stp} (h : NG v base G ka kw kh kd vp c5 vn vs c8 c9 pairs nums steps w) (hg : w.grownBy w7 vs.ownBlock) (hrow : Row SpE w7 v2 s2) : NG v base G ka kw kh kd vp c5 vn v2 c8 c9 pairs nums s2 (w7.setCell ⟨G, 7, none⟩ v2) := by
  have hm := grown_mod hg
  have hs : Safe (fun k => vs.ownBlock = some k) w 229 229 := Safe.row h.sp
  have hB := h.blk.safe hm hs (by decide) (by decide)
  have hm2 : Mod (fun k => k = G) w7 (w7.setCell ⟨G, 7, none⟩ v2) := (Mod.refl (fun k => k = G) _).setCell (a := ⟨G, 7, none⟩) (fun _ => rfl) _
  have hs2 := Safe.one hB
  exact ⟨hB.set 7 v2, (h.vw.far hm hs (by decide) (by decide)).far hm2 hs2 (by decide) (by decide), (h.pr.safe hm hs (by decide) (by decide)).safe hm2 hs2 (by decide) (by decide), (h.nu.safe hm hs (by decide) (by decide)).safe hm2 hs2 (by decide) (by decide), hrow.safe hm2 hs2 (by decide) (by decide)⟩
end
/-- What numbering may change. -/
def Nu (G : Nat) (vp vn : Value) : Nat → Prop := fun k => k = G ∨ vp.ownBlock = some k ∨ vn.ownBlock = some k

set_option maxHeartbeats 1600000 in
set_option maxRecDepth 100000 in
theorem gnum_any (w : World) (v : M2.View) (base G : Nat) (ka kw kh kd vp c5 vn vs c8 c9 : Value) (pairs : List M2.Pair) (nums : List Nat) (steps : List M2.Stp) (h : NG v base G ka kw kh kd vp c5 vn vs c8 c9 pairs nums steps w) (p : M2.Pair) (hp : p.x < 24 ∧ p.s < 4 ∧ p.y < 24 ∧ p.t < 4) (hpl : pairs.length ≤ 100000) (hnl : nums.length ≤ 100000) (hnv : ∀ u ∈ nums, u ≤ 1000000) {k : Nat} {pairs' : List M2.Pair} {nums' : List Nat} (hM : M3.gnum v.k.ahead.length pairs nums p = some (k, pairs', nums')) :
    Calls Tryz.prog 99 #[.pointer (some ⟨G, 0, none⟩), .agg #[.int .i64 (p.x : Int), .int .i64 (p.s : Int), .int .i64 (p.y : Int), .int .i64 (p.t : Int)]] w fun e w' => e = .returned (.int .i64 (k : Int)) ∧ ∃ vp', NG v base G ka kw kh kd vp' c5 vn vs c8 c9 pairs' nums' steps w' ∧ Fresh w vp vp' ∧ Mod (Nu G vp vn) w w' := by
  obtain ⟨i0, hinf, hz0, hz1, hz2⟩ := info_parts Tryz.info218
  obtain ⟨n, hn⟩ : ∃ n, n = v.k.ahead.length := ⟨_, rfl⟩
  rw [← hn] at hM
  have hn24 : n ≤ 24 := by rw [hn]; exact h.vw.n24
  obtain ⟨a1, c1, e1, -, -⟩ := h.vw.ah.open hn.symm
  unfold M3.gnum at hM
  obtain ⟨P, hP⟩ : ∃ P, P = M3.placeOf n p := ⟨_, rfl⟩
  rw [← hP] at hM
  cases hu : nums[P]? with
  | none => rw [hu] at hM; cases hM
  | some u =>
    rw [hu] at hM
    have hxl : P < nums.length := (List.getElem?_eq_some_iff.1 hu).1
    have hub := hnv u (List.mem_of_getElem? hu)
    obtain ⟨gn, ncap, hvn, hgn, hncap⟩ := h.nu.form (by omega)
    obtain ⟨N, hN⟩ : ∃ N, N = nums.length := ⟨_, rfl⟩
    rw [← hN] at hvn hncap hxl hnl
    subst hvn
    obtain ⟨x, s, y, t⟩ := p
    simp only at hp
    obtain ⟨XM, hXM⟩ : ∃ XM, XM = (x * 4 + s) * (n * 4) := ⟨_, rfl⟩
    have hPv : P = XM + y * 4 + t := by rw [hP, hXM]; rfl
    have hXM2 : ((x : Int) * 4 + (s : Int)) * ((n : Int) * 4) = (XM : Int) := by rw [hXM]; simp
    have hXMb : XM ≤ 100000 := by omega
    have HNN : Hid (n = v.k.ahead.length ∧ N = nums.length) := ⟨hn, hN⟩
    clear hn hN
    have HI : Hid (NG v base G ka kw kh kd vp c5 (.slice (some ⟨gn, 0, none⟩) N ncap) vs c8 c9 pairs nums steps w) := h
    have g0 := h.blk.cellA 0 rfl
    rw [e1] at g0
    have g6 := h.blk.cellA 6 rfl
    have hGlt := h.blk.lt
    have hGne : ¬ G = w.heap.size := by omega
    have cP := fun o => InE.cell (h.nu.alloc o) hu
    have hPi : (XM : Int) + (y : Int) * 4 + (t : Int) = (P : Int) := by omega
    have hPn : (P : Int) < (N : Int) := by omega
    have hPn0 : (0 : Int) ≤ (P : Int) := by omega
    have hgG : gn ≠ G := fun e => h.blk.apart h.nu (by decide) (by rw [← e]; rfl)
    have hgw : ¬ gn = w.heap.size := by omega
    have HNU : Hid (nums[P]? = some u) := hu
    match u, hM with
    | u + 1, hM =>
      simp only [Option.some.injEq, Prod.mk.injEq] at hM
      obtain ⟨rfl, rfl, rfl⟩ := hM
      have hne : (((u : Int) + 1) == 0) = false := by rw [beq_eq_false_iff_ne]; omega
      clear h hu hnv hXM hP e1 hinf hz0 hz1 hz2 hPv
      have hp1 := hp.1
      have hp2 := hp.2.1
      have hp3 := hp.2.2.1
      have hp4 := hp.2.2.2
      go_enter Tryz.func99, Tryz.ntmps99
      go_wp2
      go_ret
      exact ⟨wrap_ret (by omega), vp, HI.out.no ((Mod.refl _ _).alloc _), Fresh.refl _ _, (Mod.refl _ _).alloc _⟩
    | 0, hM =>
      simp only [Option.some.injEq, Prod.mk.injEq] at hM
      obtain ⟨rfl, rfl, rfl⟩ := hM
      obtain ⟨L, hL⟩ : ∃ L, L = pairs.length := ⟨_, rfl⟩
      obtain ⟨pa, pc, hvp, -, hown⟩ := h.pr.open hL.symm
      have hown : w.ownsRow 0 218 4 (.slice pa L pc) L (pairs.flatMap PaE.f) := hown
      rw [← hL] at hpl ⊢
      have HVP : Hid (vp = .slice pa L pc ∧ pairs.length = L) := ⟨hvp, hL.symm⟩
      have HW1 : Hid (NG v base G ka kw kh kd vp c5 (.slice (some ⟨gn, 0, none⟩) N ncap) vs c8 c9 pairs nums steps (w.alloc (Obj.cells #[.int .i64 (x : Int), .int .i64 (s : Int), .int .i64 (y : Int), .int .i64 (t : Int)] 218)) ∧ Blk (w.alloc (Obj.cells #[.int .i64 (x : Int), .int .i64 (s : Int), .int .i64 (y : Int), .int .i64 (t : Int)] 218)) w.heap.size [.int .i64 (x : Int), .int .i64 (s : Int), .int .i64 (y : Int), .int .i64 (t : Int)] 218) := ⟨h.no ((Mod.refl _ _).alloc _), heap_alloc_new w _⟩
      have hownA := hown.alloc (Obj.cells #[.int .i64 (x : Int), .int .i64 (s : Int), .int .i64 (y : Int), .int .i64 (t : Int)] 218)
      clear h hu hnv hXM hP e1 hL hvp hPv hown
      have hp1 := hp.1
      have hp2 := hp.2.1
      have hp3 := hp.2.2.1
      have hp4 := hp.2.2.2
      go_enter Tryz.func99, Tryz.ntmps99
      go_wp2_with fail
      clear g0 g6 cP
      have HM1 : Hid (Mod No w (w.alloc (Obj.cells #[.int .i64 (x : Int), .int .i64 (s : Int), .int .i64 (y : Int), .int .i64 (t : Int)] 218))) := (Mod.refl _ _).alloc _
      generalize w.alloc (Obj.cells #[.int .i64 (x : Int), .int .i64 (s : Int), .int .i64 (y : Int), .int .i64 (t : Int)] 218) = W1 at HW1 HM1 hownA ⊢
      generalize w.heap.size = BX at HW1 hGne hgw ⊢
      have b0 := HW1.out.2.cell 0 rfl
      have b1 := HW1.out.2.cell 1 rfl
      have b2 := HW1.out.2.cell 2 rfl
      have b3 := HW1.out.2.cell 3 rfl
      have k4 := HW1.out.1.blk.cell 4 rfl
      have K4 := HW1.out.1.blk.cellA 4 rfl
      rw [HVP.out.1] at k4 K4
      have F4 := HW1.out.1.blk.freeA 4
      have hGl1 := HW1.out.1.blk.lt
      have hGvp : some G ≠ (Value.slice pa L pc).ownBlock := by rw [← HVP.out.1]; exact fun e => HW1.out.1.blk.apart HW1.out.1.pr (by decide) e.symm
      go_region_law (refine step_append_lies _ (by rfl) _ _ _ (by rfl) 0 218 i0 _ 4 32 Tryz.underlying169 hinf hz0 hz1 hz2 rfl (by omega) (.slice pa L pc) L (pairs.flatMap PaE.f) (by rfl) ((hownA.alloc _).drew) ⟨W1.heap.size, 0, none⟩ 1 1 [.int .i64 (x : Int), .int .i64 (s : Int), .int .i64 (y : Int), .int .i64 (t : Int)] (by rfl) (by rfl) (World.news_of_block (cs := #[.int .i64 (x : Int), .int .i64 (s : Int), .int .i64 (y : Int), .int .i64 (t : Int)]) (t := 218) (fr := (0, 0)) (heap_alloc_new W1 _)) (by intro u hu; simp at hu; rcases hu with rfl | rfl | rfl | rfl <;> rfl) (by omega) (by unfold maxLen; omega) (by omega) (by simp) (W1.heap.size + 1) (by simp) ?_; intro gg cap2 w7 hown7 hgrow hat hltt; have s0 := (hgrow.cell_far ⟨G, 4, none⟩ (by simp; omega) hGvp).trans (K4 _); have s1 := (hgrow.frozen_far ⟨G, 4, none⟩ (by simp; omega) hGvp).trans (F4 _))
      all_goals
        have hI3 := HW1.out.1.no (((Mod.refl _ _).alloc (Obj.cells #[.int .i64 (x : Int), .int .i64 (s : Int), .int .i64 (y : Int), .int .i64 (t : Int)] 218)).drew)
        have hr7 : Row PaE w7 (.slice (some ⟨gg, 0, none⟩) (L + 1) cap2) (pairs ++ [⟨x, s, y, t⟩]) := app_row HVP.out.2 rfl hown7
        have HF7 : Hid (Fresh W1 vp (.slice (some ⟨gg, 0, none⟩) (L + 1) cap2)) := app_fresh (H := W1.heap.size + 1) (by rw [HVP.out.1]; exact hat) (by omega)
        have HI8 : Hid (NG v base G ka kw kh kd (.slice (some ⟨gg, 0, none⟩) (L + 1) cap2) c5 (.slice (some ⟨gn, 0, none⟩) N ncap) vs c8 c9 (pairs ++ [⟨x, s, y, t⟩]) nums steps (w7.setCell ⟨G, 4, none⟩ (.slice (some ⟨gg, 0, none⟩) (L + 1) cap2))) := hI3.moreP (by rw [HVP.out.1]; exact hgrow) hr7
        have hm8 : Mod (Nu G vp (.slice (some ⟨gn, 0, none⟩) N ncap)) W1 w7 := (((Mod.refl _ _).alloc _).drew).grown hgrow (fun g hg _ => Or.inr (Or.inl (by rw [HVP.out.1]; exact hg)))
        have HM8 : Hid (Mod (Nu G vp (.slice (some ⟨gn, 0, none⟩) N ncap)) W1 (w7.setCell ⟨G, 4, none⟩ (.slice (some ⟨gg, 0, none⟩) (L + 1) cap2))) := hm8.setCell (a := ⟨G, 4, none⟩) (fun _ => Or.inl rfl) _
        generalize w7.setCell ⟨G, 4, none⟩ (.slice (some ⟨gg, 0, none⟩) (L + 1) cap2) = w8 at HI8 HM8 ⊢
        clear hI3 hr7 hm8 hown7 hgrow hat hltt s0 s1 hownA b0 b1 b2 b3 k4 K4 F4 hinf hz0 hz1 hz2
        have d4 := HI8.out.blk.cell 4 rfl
        have d6 := HI8.out.blk.cell 6 rfl
        have dP := InE.cell HI8.out.nu HNU.out
        have fP := HI8.out.nu.free P
        go_wp2_with fail
        go_region
        all_goals
          have HI9 : Hid (NG v base G ka kw kh kd (.slice (some ⟨gg, 0, none⟩) (L + 1) cap2) c5 (.slice (some ⟨gn, 0, none⟩) N ncap) vs c8 c9 (pairs ++ [⟨x, s, y, t⟩]) (nums.set P (L + 1)) steps (w8.setCell ⟨gn, P, none⟩ (.int .i64 ((L : Int) + 1))).drew) := by
            have h8 := HI8.out
            have hm9 : Mod (fun q => q = gn) w8 (w8.setCell ⟨gn, P, none⟩ (.int .i64 ((L + 1 : Nat) : Int))) := (Mod.refl (fun q => q = gn) _).setCell (a := ⟨gn, P, none⟩) (fun _ => rfl) _
            have hs9 : Safe (fun q => q = gn) w8 3 3 := fun g c T hg h1 h2 e => by
              have := Safe.row h8.nu g c T hg h1 h2
              exact this (by rw [e]; rfl)
            have h9 : NG v base G ka kw kh kd (.slice (some ⟨gg, 0, none⟩) (L + 1) cap2) c5 (.slice (some ⟨gn, 0, none⟩) N ncap) vs c8 c9 (pairs ++ [⟨x, s, y, t⟩]) (nums.set P (L + 1)) steps (w8.setCell ⟨gn, P, none⟩ (.int .i64 ((L + 1 : Nat) : Int))) := ⟨h8.blk.safe hm9 hs9 (by decide) (by decide), h8.vw.far hm9 hs9 (by decide) (by decide), h8.pr.safe hm9 hs9 (by decide) (by decide), InE.put h8.nu (L + 1) HNU.out, h8.sp.safe hm9 hs9 (by decide) (by decide)⟩
            exact h9.no ((Mod.refl _ _).drew)
          have HM9 : Hid (Mod (Nu G vp (.slice (some ⟨gn, 0, none⟩) N ncap)) W1 (w8.setCell ⟨gn, P, none⟩ (.int .i64 ((L : Int) + 1))).drew) := (HM8.out.setCell (a := ⟨gn, P, none⟩) (fun _ => Or.inr (Or.inr rfl)) _).drew
          generalize (w8.setCell ⟨gn, P, none⟩ (.int .i64 ((L : Int) + 1))).drew = w9 at HI9 HM9 ⊢
          have x6 := HI9.out.blk.cell 6 rfl
          have xP : w9.cell? ⟨gn, P, none⟩ = some (.int .i64 ((L + 1 : Nat) : Int)) := InE.cell HI9.out.nu (List.getElem?_set_self (by rw [← HNN.out.2]; exact hxl))
          have hLL : ((L + 1 : Nat) : Int) - 1 = (L : Int) := by omega
          clear d4 d6 dP fP HI8 HM8
          go_wp2
          go_ret
          refine ⟨wrap_ret (by omega), _, HI9.out, ?_, ?_⟩
          · intro g hg
            rcases HF7.out g hg with e | e
            · exact Or.inl e
            · exact Or.inr (by have := HM1.out.size; omega)
          · exact (HM1.out.more (fun _ _ x => x.elim)).trans HM9.out
end Go.Proofs.YtmbapmbpnnaanabGreatDoor
namespace Go.Proofs.YtmbapmbpnnaanabGreatDoor.M3
open Go.Proofs.YtmbapmbpnnaanabGreatDoor.M2
open Go.Proofs.YtmbapmbpnnaanabGreatDoor.Mir (R4)
structure Gr where
  pairs : List Pair
  nums : List Nat
  steps : List Stp
def leadY (n fr l : Nat) (p : Pair) (sa sb : List UInt8 × Nat) (x : Nat) : List R4 → Nat → Gr → Option Gr
  | [], _, g => some g
  | r :: rs, y, g => match r.get l with
    | none => none
    | some k => if k = p.y then
        if g.pairs.length ≤ 50000 ∧ g.steps.length ≤ 50000 then
          match gnum n g.pairs g.nums ⟨x, sa.2, y, sb.2⟩ with
          | none => none
          | some (tt, ps, ns) => leadY n fr l p sa sb x rs (y + 1) ⟨ps, ns, g.steps ++ [⟨fr, tt, l, sa.1, sb.1⟩]⟩
        else none
      else leadY n fr l p sa sb x rs (y + 1) g
def leadX (n fr l : Nat) (p : Pair) (sa sb : List UInt8 × Nat) (all : List R4) : List R4 → Nat → Gr → Option Gr
  | [], _, g => some g
  | r :: rs, x, g => match r.get l with
    | none => none
    | some k => if k = p.x then
        match leadY n fr l p sa sb x all 0 g with
        | none => none
        | some g => leadX n fr l p sa sb all rs (x + 1) g
      else leadX n fr l p sa sb all rs (x + 1) g
def lead (v : View) (fr l : Nat) (g : Gr) : Option Gr :=
  match g.pairs[fr]? with
  | none => none
  | some p => if p.x < v.k.ahead.length ∧ p.s < 4 ∧ p.y < v.k.ahead.length ∧ p.t < 4 then leadX v.k.ahead.length fr l p (vstep v p.x p.s l) (vstep v p.y p.t l) v.k.ahead v.k.ahead 0 g else none
end Go.Proofs.YtmbapmbpnnaanabGreatDoor.M3
namespace Go.Proofs.YtmbapmbpnnaanabGreatDoor
open Go.RowKit
attribute [local go_sem ↓] Go.wp_at_zero Go.wp_at_succ

structure GOk (n : Nat) (g : M3.Gr) : Prop where
  nl : g.nums.length ≤ 100000
  nv : ∀ u ∈ g.nums, u ≤ g.pairs.length
theorem gnum_ok {n : Nat} {ps ps' : List M2.Pair} {ns ns' : List Nat} {p : M2.Pair} {k : Nat} (h1 : ns.length ≤ 100000) (h2 : ∀ u ∈ ns, u ≤ ps.length) (h : M3.gnum n ps ns p = some (k, ps', ns')) : ns'.length ≤ 100000 ∧ (∀ u ∈ ns', u ≤ ps'.length) ∧ ps'.length ≤ ps.length + 1 := by
  unfold M3.gnum at h
  split at h
  · cases h
  · simp only [Option.some.injEq, Prod.mk.injEq] at h
    obtain ⟨-, rfl, rfl⟩ := h
    refine ⟨by simpa using h1, fun u hu => ?_, by simp⟩
    rcases List.mem_or_eq_of_mem_set hu with h | h
    · have := h2 u h; simp; omega
    · rw [h]; simp
  · simp only [Option.some.injEq, Prod.mk.injEq] at h
    obtain ⟨-, rfl, rfl⟩ := h
    exact ⟨h1, h2, by omega⟩
theorem leadY_step {n fr l : Nat} {p : M2.Pair} {sa sb : List UInt8 × Nat} {x y : Nat} {rs : List Mir.R4} {r : Mir.R4} {g R : M3.Gr} (hr : rs[y]? = some r) (h : M3.leadY n fr l p sa sb x (rs.drop y) y g = some R) :
    ∃ k, r.get l = some k ∧ ((k = p.y ∧ g.pairs.length ≤ 50000 ∧ g.steps.length ≤ 50000 ∧ ∃ tt ps ns, M3.gnum n g.pairs g.nums ⟨x, sa.2, y, sb.2⟩ = some (tt, ps, ns) ∧ M3.leadY n fr l p sa sb x (rs.drop (y + 1)) (y + 1) ⟨ps, ns, g.steps ++ [⟨fr, tt, l, sa.1, sb.1⟩]⟩ = some R) ∨ (k ≠ p.y ∧ M3.leadY n fr l p sa sb x (rs.drop (y + 1)) (y + 1) g = some R)) := by
  obtain ⟨h1, h2⟩ := List.getElem?_eq_some_iff.1 hr
  rw [List.drop_eq_getElem_cons h1, h2, M3.leadY] at h
  split at h
  · cases h
  · rename_i k hk
    refine ⟨k, hk, ?_⟩
    split at h
    · rename_i he
      split at h
      · rename_i hc
        split at h
        · cases h
        · rename_i tt ps ns hg
          exact Or.inl ⟨he, hc.1, hc.2, tt, ps, ns, hg, h⟩
      · cases h
    · rename_i he
      exact Or.inr ⟨he, h⟩
theorem leadX_step {n fr l : Nat} {p : M2.Pair} {sa sb : List UInt8 × Nat} {x : Nat} {all rs : List Mir.R4} {r : Mir.R4} {g R : M3.Gr} (hr : rs[x]? = some r) (h : M3.leadX n fr l p sa sb all (rs.drop x) x g = some R) :
    ∃ k, r.get l = some k ∧ ((k = p.x ∧ ∃ g2, M3.leadY n fr l p sa sb x all 0 g = some g2 ∧ M3.leadX n fr l p sa sb all (rs.drop (x + 1)) (x + 1) g2 = some R) ∨ (k ≠ p.x ∧ M3.leadX n fr l p sa sb all (rs.drop (x + 1)) (x + 1) g = some R)) := by
  obtain ⟨h1, h2⟩ := List.getElem?_eq_some_iff.1 hr
  rw [List.drop_eq_getElem_cons h1, h2, M3.leadX] at h
  split at h
  · cases h
  · rename_i k hk
    refine ⟨k, hk, ?_⟩
    split at h
    · rename_i he
      split at h
      · cases h
      · rename_i g2 hg
        exact Or.inl ⟨he, g2, hg, h⟩
    · rename_i he
      exact Or.inr ⟨he, h⟩
/-- What leading may change: of what was there. -/
def Le (G : Nat) (vp vn vs : Value) : Nat → Prop := fun k => k = G ∨ vp.ownBlock = some k ∨ vn.ownBlock = some k ∨ vs.ownBlock = some k
/-- The graph on its way. -/
structure LG (w : World) (v : M2.View) (base G : Nat) (ka kw kh kd vp0 c5 vn vs0 c8 c9 : Value) (vp vs : Value) (g : M3.Gr) (wr : World) : Prop where
  ng : NG v base G ka kw kh kd vp c5 vn vs c8 c9 g.pairs g.nums g.steps wr
  fp : Fresh w vp0 vp
  fs : Fresh w vs0 vs
  md : Mod (Le G vp0 vn vs0) w wr
  ok : GOk v.k.ahead.length g
section
variable {w : World} {v : M2.View} {base G : Nat} {ka kw kh kd vp0 c5 vn vs0 c8 c9 vp vs : Value} {g : M3.Gr} {wr wr' : World}
theorem LG.no (h : LG w v base G ka kw kh kd vp0 c5 vn vs0 c8 c9 vp vs g wr) (hm : Mod No wr wr') : LG w v base G ka kw kh kd vp0 c5 vn vs0 c8 c9 vp vs g wr' := ⟨h.ng.no hm, h.fp, h.fs, h.md.no hm, h.ok⟩
theorem LG.num {vp' : Value} {ps : List M2.Pair} {ns : List Nat} {p : M2.Pair} {k : Nat} (h : LG w v base G ka kw kh kd vp0 c5 vn vs0 c8 c9 vp vs g wr) (hg : M3.gnum v.k.ahead.length g.pairs g.nums p = some (k, ps, ns)) (hn : NG v base G ka kw kh kd vp' c5 vn vs c8 c9 ps ns g.steps wr') (hf : Fresh wr vp vp') (hm : Mod (Nu G vp vn) wr wr') : LG w v base G ka kw kh kd vp0 c5 vn vs0 c8 c9 vp' vs ⟨ps, ns, g.steps⟩ wr' := by
  have hok := gnum_ok h.ok.nl h.ok.nv hg
  refine ⟨hn, h.fp.trans hf h.md.size, h.fs, h.md.trans' hm (fun q hq e => ?_), ⟨hok.1, hok.2.1⟩⟩
  rcases e with e | e | e
  · exact Or.inl e
  · rcases h.fp q e with e2 | e2
    · exact Or.inr (Or.inl e2)
    · omega
  · exact Or.inr (Or.inr (Or.inl e))
theorem LG.step {w7 : World} {v2 : Value} {s2 : List M2.Stp} (h : LG w v base G ka kw kh kd vp0 c5 vn vs0 c8 c9 vp vs g wr) (hg : wr.grownBy w7 vs.ownBlock) (hrow : Row SpE w7 v2 s2) (hf : Fresh wr vs v2) : LG w v base G ka kw kh kd vp0 c5 vn vs0 c8 c9 vp v2 ⟨g.pairs, g.nums, s2⟩ (w7.setCell ⟨G, 7, none⟩ v2) := by
  refine ⟨h.ng.moreS hg hrow, h.fp, h.fs.trans hf h.md.size, ?_, ⟨h.ok.nl, h.ok.nv⟩⟩
  have hm7 : Mod (Le G vp0 vn vs0) w w7 := h.md.grown hg (fun q e hlt => by
    rcases h.fs q e with e2 | e2
    · exact Or.inr (Or.inr (Or.inr e2))
    · omega)
  exact hm7.setCell (a := ⟨G, 7, none⟩) (fun _ => Or.inl rfl) _
end
end Go.Proofs.YtmbapmbpnnaanabGreatDoor
