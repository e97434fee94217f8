import Derived.Test.YtmbapmbpnnaanabGreatDoorNJ
namespace Go.Proofs.YtmbapmbpnnaanabGreatDoor.M3
open Go.Proofs.YtmbapmbpnnaanabGreatDoor.M2
def wayM (v : View) (x y : List UInt8) (k : Nat) : Option M2.Way :=
  match v.k.words[k]? with
  | none => none
  | some wd => if x.length ≤ 100000 ∧ y.length ≤ 100000 ∧ wd.length ≤ 100000 ∧ k < v.k.ahead.length then
      match vrun v x k 0 with
      | none => none
      | some (tt, tc) => if tc ≤ 4 then
          match vrun v y k tc, vrun v wd 0 tc with
          | some ro, some re => some ⟨tt, ro.1, re.1⟩
          | _, _ => none
        else none
    else none
end Go.Proofs.YtmbapmbpnnaanabGreatDoor.M3
namespace Go.Proofs.YtmbapmbpnnaanabGreatDoor
open Go.RowKit
attribute [local go_sem ↓] Go.wp_at_zero Go.wp_at_succ

theorem way_spec {v : M2.View} {x y : List UInt8} {k : Nat} {W : M2.Way} (h : M3.wayM v x y k = some W) : ∃ wd tc ro re, v.k.words[k]? = some wd ∧ x.length ≤ 100000 ∧ y.length ≤ 100000 ∧ wd.length ≤ 100000 ∧ k < v.k.ahead.length ∧ tc ≤ 4 ∧ M2.vrun v x k 0 = some (W.tt, tc) ∧ M2.vrun v y k tc = some ro ∧ M2.vrun v wd 0 tc = some re ∧ W = ⟨W.tt, ro.1, re.1⟩ := by
  unfold M3.wayM at h
  split at h
  · cases h
  · rename_i wd hwd
    split at h
    · rename_i hb
      split at h
      · cases h
      · rename_i tt tc htt
        split at h
        · rename_i htc
          split at h
          · rename_i ro re hro hre
            cases h
            exact ⟨wd, tc, ro, re, hwd, hb.1, hb.2.1, hb.2.2.1, hb.2.2.2, htc, htt, hro, hre, rfl⟩
          · cases h
        · cases h
    · cases h

set_option maxHeartbeats 1600000 in
set_option maxRecDepth 100000 in
theorem follow'_any (w : World) (v : M2.View) (base : Nat) (ka kw kh kd : Value) (hv : VP v base ka kw kh kd w) (x y : List UInt8) (k : Nat) {W : M2.Way} (hM : M3.wayM v x y k = some W) :
    Calls Tryz.prog 132 #[.agg #[ka, kw, kh, kd], .string ⟨x.toArray⟩, .string ⟨y.toArray⟩, .int .i64 (k : Int)] w fun e w' => e = .returned (.agg #[.string ⟨W.tt.toArray⟩, .string ⟨W.ro.toArray⟩, .string ⟨W.re.toArray⟩]) ∧ Mod No w w' := by
  obtain ⟨wd, tc, ro, re, hwd, hx, hy, hwl, hk, htc, h1, h2, h3, hW⟩ := way_spec hM
  have hn24 := hv.n24
  obtain ⟨a1, n1, c1, e1⟩ := hv.ah.sl
  obtain ⟨a3, n3, c3, e3⟩ := hv.hi.sl
  obtain ⟨a4, n4, c4, e4⟩ := hv.de.sl
  have hkw : k < v.k.words.length := (List.getElem?_eq_some_iff.1 hwd).1
  obtain ⟨gw, cw, e2, -, -⟩ := hv.wo.form (by omega)
  obtain ⟨NW, hNW⟩ : ∃ N, N = v.k.words.length := ⟨_, rfl⟩
  rw [← hNW] at e2 hkw
  have cwd := hv.wo
  rw [e2] at cwd
  have cwd := fun (wx : World) (hm : Mod No w wx) => StE.cell (cwd.no hm) hwd
  have H1 : Hid (∀ wx, Mod No w wx → Calls Tryz.prog 127 #[.agg #[ka, kw, kh, kd], .string ⟨x.toArray⟩, .int .i64 (k : Int), .int .i64 ((0 : Nat) : Int)] wx fun e w' => e = .returned (.tuple #[.string ⟨W.tt.toArray⟩, .int .i64 (tc : Int)]) ∧ Mod No wx w') := fun wx hm => vrun_any wx ka kw kh kd v hv.ok ⟨x.toArray⟩ k 0 hv.wo.sl hv.hi.sl (hv.ah.no hm) (hv.de.no hm) (by rw [str_size]; exact hx) hk (by omega) h1
  have H2 : Hid (∀ wx, Mod No w wx → Calls Tryz.prog 127 #[.agg #[ka, kw, kh, kd], .string ⟨y.toArray⟩, .int .i64 (k : Int), .int .i64 (tc : Int)] wx fun e w' => e = .returned (.tuple #[.string ⟨ro.1.toArray⟩, .int .i64 (ro.2 : Int)]) ∧ Mod No wx w') := fun wx hm => vrun_any wx ka kw kh kd v hv.ok ⟨y.toArray⟩ k tc hv.wo.sl hv.hi.sl (hv.ah.no hm) (hv.de.no hm) (by rw [str_size]; exact hy) hk htc h2
  have H3 : Hid (∀ wx, Mod No w wx → Calls Tryz.prog 127 #[.agg #[ka, kw, kh, kd], .string ⟨wd.toArray⟩, .int .i64 ((0 : Nat) : Int), .int .i64 (tc : Int)] wx fun e w' => e = .returned (.tuple #[.string ⟨re.1.toArray⟩, .int .i64 (re.2 : Int)]) ∧ Mod No wx w') := fun wx hm => vrun_any wx ka kw kh kd v hv.ok ⟨wd.toArray⟩ 0 tc hv.wo.sl hv.hi.sl (hv.ah.no hm) (hv.de.no hm) (by rw [str_size]; exact hwl) (by omega) htc h3
  obtain ⟨XX, hXX⟩ : ∃ X, X = (⟨x.toArray⟩ : ByteArray) := ⟨_, rfl⟩
  obtain ⟨YY, hYY⟩ : ∃ X, X = (⟨y.toArray⟩ : ByteArray) := ⟨_, rfl⟩
  obtain ⟨WD, hWD⟩ : ∃ X, X = (⟨wd.toArray⟩ : ByteArray) := ⟨_, rfl⟩
  obtain ⟨TT, hTT⟩ : ∃ X, X = (⟨W.tt.toArray⟩ : ByteArray) := ⟨_, rfl⟩
  obtain ⟨RO, hRO⟩ : ∃ X, X = (⟨ro.1.toArray⟩ : ByteArray) := ⟨_, rfl⟩
  obtain ⟨RE, hRE⟩ : ∃ X, X = (⟨re.1.toArray⟩ : ByteArray) := ⟨_, rfl⟩
  have HW : Hid (TT = (⟨W.tt.toArray⟩ : ByteArray) ∧ RO = (⟨W.ro.toArray⟩ : ByteArray) ∧ RE = (⟨W.re.toArray⟩ : ByteArray)) := ⟨hTT, by rw [hW]; exact hRO, by rw [hW]; exact hRE⟩
  rw [← hXX, ← hTT] at H1
  rw [← hYY, ← hRO] at H2
  rw [← hWD, ← hRE] at H3
  rw [e1, e2, e3, e4] at H1 H2 H3 ⊢
  rw [← hXX, ← hYY]
  have HC : Hid (∀ wx, Mod No w wx → wx.cell? ⟨gw, k, none⟩ = some (.string WD)) := fun wx hm => by rw [hWD]; exact cwd wx hm
  have hki : (k : Int) < (NW : Int) := by omega
  have hk0 : (0 : Int) ≤ (k : Int) := by omega
  clear hv hM hwd hx hy hwl hk h1 h2 h3 hW e1 e2 e3 e4 cwd hXX hYY hWD hTT hRO hRE hNW
  go_enter Tryz.func132, Tryz.ntmps132
  go_wp2_with fail
  have HW1 : Hid (Mod No w ((w.alloc (Obj.cells #[.slice a1 n1 c1, .slice (some ⟨gw, 0, none⟩) NW cw, .slice a3 n3 c3, .slice a4 n4 c4] 90)).alloc (Obj.cells #[.string ⟨#[]⟩, .string ⟨#[]⟩, .string ⟨#[]⟩] 258)) ∧ Blk ((w.alloc (Obj.cells #[.slice a1 n1 c1, .slice (some ⟨gw, 0, none⟩) NW cw, .slice a3 n3 c3, .slice a4 n4 c4] 90)).alloc (Obj.cells #[.string ⟨#[]⟩, .string ⟨#[]⟩, .string ⟨#[]⟩] 258)) w.heap.size [.slice a1 n1 c1, .slice (some ⟨gw, 0, none⟩) NW cw, .slice a3 n3 c3, .slice a4 n4 c4] 90 ∧ Blk ((w.alloc (Obj.cells #[.slice a1 n1 c1, .slice (some ⟨gw, 0, none⟩) NW cw, .slice a3 n3 c3, .slice a4 n4 c4] 90)).alloc (Obj.cells #[.string ⟨#[]⟩, .string ⟨#[]⟩, .string ⟨#[]⟩] 258)) (w.heap.size + 1) [.string ⟨#[]⟩, .string ⟨#[]⟩, .string ⟨#[]⟩] 258) := ⟨((Mod.refl _ _).alloc _).alloc _, new2_0 w _ _, new2_1 w _ _⟩
  refine (H1.out _ HW1.out.1).mono ?_
  rintro e w2 ⟨rfl, m2⟩
  have HW2 : Hid (Mod No w w2 ∧ Blk w2 w.heap.size [.slice a1 n1 c1, .slice (some ⟨gw, 0, none⟩) NW cw, .slice a3 n3 c3, .slice a4 n4 c4] 90 ∧ Blk w2 (w.heap.size + 1) [.string ⟨#[]⟩, .string ⟨#[]⟩, .string ⟨#[]⟩] 258) := ⟨HW1.out.1.no m2, HW1.out.2.1.mod m2 (fun x => x), HW1.out.2.2.mod m2 (fun x => x)⟩
  clear HW1 m2
  have b0 := HW2.out.2.1.cell 0 rfl
  have b1 := HW2.out.2.1.cell 1 rfl
  have b2 := HW2.out.2.1.cell 2 rfl
  have b3 := HW2.out.2.1.cell 3 rfl
  go_wp2_with fail
  refine (H2.out _ HW2.out.1).mono ?_
  rintro e w3 ⟨rfl, m3⟩
  have HW3 : Hid (Mod No w w3 ∧ Blk w3 w.heap.size [.slice a1 n1 c1, .slice (some ⟨gw, 0, none⟩) NW cw, .slice a3 n3 c3, .slice a4 n4 c4] 90 ∧ Blk w3 (w.heap.size + 1) [.string ⟨#[]⟩, .string ⟨#[]⟩, .string ⟨#[]⟩] 258) := ⟨HW2.out.1.no m3, HW2.out.2.1.mod m3 (fun x => x), HW2.out.2.2.mod m3 (fun x => x)⟩
  clear HW2 m3 b0 b1 b2 b3
  have b0 := HW3.out.2.1.cell 0 rfl
  have b1 := HW3.out.2.1.cell 1 rfl
  have b2 := HW3.out.2.1.cell 2 rfl
  have b3 := HW3.out.2.1.cell 3 rfl
  have cK := HC.out w3 HW3.out.1
  go_wp2_with fail
  go_region_with (go_at_call 127; refine (H3.out _ HW3.out.1.drew).mono ?_; rintro e w4 ⟨rfl, m4⟩)
  all_goals
    have HW4 : Hid (Mod No w w4 ∧ Blk w4 (w.heap.size + 1) [.string ⟨#[]⟩, .string ⟨#[]⟩, .string ⟨#[]⟩] 258) := ⟨HW3.out.1.drew.no m4, HW3.out.2.2.drew.mod m4 (fun x => x)⟩
    clear b0 b1 b2 b3 cK m4 HW3
    have u0 := HW4.out.2.cell 0 rfl
    have u1 := HW4.out.2.cell 1 rfl
    have u2 := HW4.out.2.cell 2 rfl
    have f0 := HW4.out.2.free 0
    have f1 := HW4.out.2.free 1
    have f2 := HW4.out.2.free 2
    go_wp2
    refine bodyPost_ret (v := .agg #[.string TT, .string RO, .string RE]) (by simp [results, Tryz.results132, go_sem, u0, u1, u2]) rfl ?_
    refine ⟨by rw [HW.out.1, HW.out.2.1, HW.out.2.2], ?_⟩
    exact ((HW4.out.1.setCell (a := ⟨w.heap.size + 1, 0, none⟩) (fun e => absurd e (by show ¬ w.heap.size + 1 < w.heap.size; omega)) _).setCell (a := ⟨w.heap.size + 1, 1, none⟩) (fun e => absurd e (by show ¬ w.heap.size + 1 < w.heap.size; omega)) _).setCell (a := ⟨w.heap.size + 1, 2, none⟩) (fun e => absurd e (by show ¬ w.heap.size + 1 < w.heap.size; omega)) _
end Go.Proofs.YtmbapmbpnnaanabGreatDoor
namespace Go.Proofs.YtmbapmbpnnaanabGreatDoor.M3
open Go.Proofs.YtmbapmbpnnaanabGreatDoor.M2
def idx (fr : Nat) : List Nat → Nat → Option Nat
  | [], _ => none
  | x :: xs, i => if x = fr then some i else idx fr xs (i + 1)
def circleGo (on : List Int) (steps : List Stp) : Nat → List Nat → List UInt8 → Nat → Option (List UInt8 × List UInt8 × Nat)
  | 0, _, _, _ => none
  | n + 1, met, w, fr => match on[fr]? with
    | none => none
    | some o => if o < 0 then some (w, [], fr) else
      match idx fr met 0 with
      | some i => some (w.take i, w.drop i, fr)
      | none => match steps[o.toNat]? with
        | none => none
        | some s => if s.l < 4 ∧ fr ≤ 1000000 then circleGo on steps n (met ++ [fr]) (w ++ letterOf s.l) s.tt else none
end Go.Proofs.YtmbapmbpnnaanabGreatDoor.M3
namespace Go.Proofs.YtmbapmbpnnaanabGreatDoor
open Go.RowKit
attribute [local go_sem ↓] Go.wp_at_zero Go.wp_at_succ

theorem idx_lt (fr : Nat) : ∀ (xs : List Nat) (i k : Nat), M3.idx fr xs i = some k → i ≤ k ∧ k < i + xs.length
  | [], i, k, h => by cases h
  | x :: xs, i, k, h => by
    rw [M3.idx] at h
    split at h
    · cases h; simp
    · have := idx_lt fr xs (i + 1) k h
      simp; omega
theorem circle_step {on : List Int} {steps : List M2.Stp} {n : Nat} {met : List Nat} {wd : List UInt8} {fr : Nat} {r : List UInt8 × List UInt8 × Nat} (h : M3.circleGo on steps (n + 1) met wd fr = some r) : ∃ o, on[fr]? = some o ∧ ((o < 0 ∧ r = (wd, [], fr)) ∨ (∃ k : Nat, o = (k : Int) ∧ ((∃ i, M3.idx fr met 0 = some i ∧ r = (wd.take i, wd.drop i, fr)) ∨ (M3.idx fr met 0 = none ∧ ∃ s, steps[k]? = some s ∧ s.l < 4 ∧ fr ≤ 1000000 ∧ M3.circleGo on steps n (met ++ [fr]) (wd ++ M2.letterOf s.l) s.tt = some r)))) := by
  rw [M3.circleGo] at h
  split at h
  · cases h
  · rename_i o ho
    refine ⟨o, ho, ?_⟩
    split at h
    · rename_i hc
      exact Or.inl ⟨hc, (Option.some.inj h).symm⟩
    · rename_i hc
      refine Or.inr ⟨o.toNat, by omega, ?_⟩
      split at h
      · rename_i i hi
        exact Or.inl ⟨i, hi, (Option.some.inj h).symm⟩
      · rename_i hi
        refine Or.inr ⟨hi, ?_⟩
        split at h
        · cases h
        · rename_i s hs
          split at h
          · rename_i hb
            exact ⟨s, hs, hb.1, hb.2, h⟩
          · cases h

set_option maxHeartbeats 1600000 in
set_option maxRecDepth 100000 in
theorem circle_any (w : World) (v : M2.View) (base S : Nat) (ka kw kh kd vp c5 vn vs vf vo fo la : Value) (R : M3.GG) (found : List M2.Fnd) (last : List Nat) (h : SG v base S ka kw kh kd vp c5 vn vs vf vo fo la R found last w) (fr : Nat) {r : List UInt8 × List UInt8 × Nat} (hM : M3.circleGo R.on R.g.steps 100000 [] [] fr = some r) :
    Calls Tryz.prog 105 #[.pointer (some ⟨S, 0, none⟩), .int .i64 (fr : Int)] w fun e w' => e = .returned (.tuple #[.string ⟨r.1.toArray⟩, .string ⟨r.2.1.toArray⟩, .int .i64 (r.2.2 : Int)]) ∧ Mod No w w' := by
  have HM : Hid (M3.circleGo R.on R.g.steps 100000 [] [] fr = some r) := hM
  have HI : Hid (SG v base S ka kw kh kd vp c5 vn vs vf vo fo la R found last w) := h
  clear h hM
  go_enter Tryz.func105, Tryz.ntmps105
  go_wp2_with fail
  go_loopg [1, 7, 8] 100000 (fun gh v1 v7 v8 wr => ∃ (fr : Nat) (met : List Nat) (wd : List UInt8), v1 = .int .i64 (fr : Int) ∧ v8 = .string ⟨wd.toArray⟩ ∧ M3.circleGo R.on R.g.steps gh met wd fr = some r ∧ wd.length = met.length ∧ met.length + gh ≤ 100000 ∧ Row InE wr v7 met ∧ (∀ q, v7.ownBlock = some q → w.heap.size ≤ q) ∧ Mod No w wr)
  case atStart => exact ⟨fr, [], [], rfl, rfl, HM.out, rfl, by simp, Row.nil _ _, fun q hq => (by cases hq), Mod.refl _ _⟩
  case round =>
    clear HM
    obtain ⟨fr, met, wd, rfl, rfl, hgo, hwl, hml, hrow, hfr, hmd⟩ := hrel
    have hS := HI.out.no hmd
    match gk, hgo with
    | 0, hgo => cases hgo
    | f + 1, hgo =>
      obtain ⟨o, ho, hcase⟩ := circle_step hgo
      have hfo : fr < R.on.length := (List.getElem?_eq_some_iff.1 ho).1
      obtain ⟨NO, hNO⟩ : ∃ N, N = R.on.length := ⟨_, rfl⟩
      obtain ⟨go', oc, evo, -, -⟩ := hS.on.form (by omega)
      rw [← hNO] at evo hfo
      obtain ⟨WD, hWD⟩ : ∃ S, S = (⟨wd.toArray⟩ : ByteArray) := ⟨_, rfl⟩
      have HWD : Hid (WD = (⟨wd.toArray⟩ : ByteArray)) := hWD
      have hWs : WD.size = wd.length := by rw [hWD, str_size]
      rw [← hWD]
      obtain ⟨mn, hmn⟩ : ∃ m, m = met.length := ⟨_, rfl⟩
      obtain ⟨mA, mC, evm, -, hown⟩ := hrow.open (n := mn) hmn.symm
      have hown : wr.ownsRow 0 3 1 (.slice mA mn mC) mn (met.flatMap InE.f) := hown
      have HRW : Hid (Row InE wr (.slice mA mn mC) met ∧ met.length = mn ∧ (∀ q, (Value.slice mA mn mC).ownBlock = some q → w.heap.size ≤ q) ∧ Mod No w wr) := ⟨by rw [← evm]; exact hrow, hmn.symm, by rw [← evm]; exact hfr, hmd⟩
      have k9 := hS.blk.cell 9 rfl
      rw [evo] at k9
      have co : wr.cell? ⟨go', fr, none⟩ = some (.int .i64 o) := by have := hS.on; rw [evo] at this; exact IzE.cell this ho
      have hfi : (fr : Int) < (NO : Int) := by omega
      have hf0 : (0 : Int) ≤ (fr : Int) := by omega
      rw [evm]
      rcases hcase with ⟨ho0, hr⟩ | ⟨k, hk, hcase⟩
      · have HR : Hid (r = (wd, [], fr)) := hr
        have ho1 : ¬ (0 : Int) ≤ o := by omega
        clear hgo hrow hfr hS ho evo hWD hown hNO hr evm hWs
        go_wp2
        refine bodyPost_ret (v := .tuple #[.string WD, .string ⟨#[]⟩, .int .i64 (fr : Int)]) (by simp [results, Tryz.results105, go_sem]) rfl ?_
        exact ⟨by rw [HR.out, HWD.out], hmd⟩
      · subst hk
        have ho1 : (0 : Int) ≤ (k : Int) := by omega
        have HCASE : Hid ((∃ i, M3.idx fr met 0 = some i ∧ r = (wd.take i, wd.drop i, fr)) ∨ (M3.idx fr met 0 = none ∧ ∃ s, R.g.steps[k]? = some s ∧ s.l < 4 ∧ fr ≤ 1000000 ∧ M3.circleGo R.on R.g.steps f (met ++ [fr]) (wd ++ M2.letterOf s.l) s.tt = some r)) := hcase
        have HO : Hid (R.on[fr]? = some (k : Int) ∧ vo = .slice (some ⟨go', 0, none⟩) NO oc) := ⟨ho, evo⟩
        clear hgo hrow hfr hS ho evo hWD hcase hNO evm
        rw [hwl, ← hmn] at hWs
        have hmn9 : mn ≤ 100000 := by omega
        clear hmn
        go_wp2_with fail
        go_loopg [22] mn (fun gh v22 wx => ∃ i : Nat, i ≤ mn ∧ gh = mn - i ∧ v22 = .int .i64 (i : Int) ∧ M3.idx fr (met.drop i) i = M3.idx fr met 0 ∧ wx = wr)
        case atStart => exact ⟨0, by omega, by omega, rfl, rfl, rfl⟩
        case round =>
          obtain ⟨i, hin, hgi, rfl, hix, rfl⟩ := hrel
          by_cases hlt : i < mn
          · obtain ⟨p, hp⟩ : ∃ p, met[i]? = some p := ⟨met[i]'(by rw [HRW.out.2.1]; exact hlt), List.getElem?_eq_getElem _⟩
            obtain ⟨gm, hgm⟩ : ∃ q, mA = some ⟨q, 0, none⟩ := by
              obtain ⟨g2, c2, h2, -⟩ := HRW.out.1.form (by rw [HRW.out.2.1]; omega)
              injection h2 with h2 _
              exact ⟨g2, h2⟩
            subst hgm
            have cp := InE.cell HRW.out.1 hp
            have hdr : met.drop i = p :: met.drop (i + 1) := by
              have := List.drop_eq_getElem_cons (l := met) (i := i) (by rw [HRW.out.2.1]; exact hlt)
              rw [this]
              congr 1
              have h2 := List.getElem?_eq_some_iff.1 hp
              exact h2.2
            rw [hdr, M3.idx] at hix
            have hii : (i : Int) < (mn : Int) := by omega
            by_cases hpf : p = fr
            · rw [if_pos hpf] at hix
              have HR : Hid (r = (wd.take i, wd.drop i, fr)) := by
                rcases HCASE.out with ⟨i2, h1, h2⟩ | ⟨h1, -⟩
                · rw [h1] at hix; cases hix; exact h2
                · rw [h1] at hix; cases hix
              subst hpf
              have hiW : (i : Int) ≤ (WD.size : Int) := by omega
              have hiW2 : i ≤ WD.size := by omega
              clear hix hdr hp hown
              go_wp2_with fail
              go_quiet (fail)
              go_wp2
              refine bodyPost_ret (v := .tuple #[.string (WD.extract 0 i), .string (WD.extract i mn), .int .i64 (p : Int)]) (by simp [results, Tryz.results105, go_sem]) rfl ?_
              refine ⟨?_, hmd.drewN _⟩
              rw [HR.out, HWD.out, str_take, str_cut wd i mn (by rw [← hWs, HWD.out, str_size])]
            · rw [if_neg hpf] at hix
              have HIX : Hid (M3.idx fr (met.drop (i + 1)) (i + 1) = M3.idx fr met 0) := hix
              have hpb : ((p : Int) == (fr : Int)) = false := by rw [beq_eq_false_iff_ne]; omega
              clear hix hdr hp hown hpf
              go_wp2
              go_roundg (mn - (i + 1))
              case measure => omega
              case rel => exact ⟨i + 1, by omega, rfl, by go_num, HIX.out, rfl⟩
          · have hi2 : i = mn := by omega
            have e1 : met.drop i = [] := List.drop_of_length_le (by rw [HRW.out.2.1]; omega)
            rw [e1] at hix
            have hnone : M3.idx fr met 0 = none := by rw [← hix]; rfl
            obtain ⟨s, hs, hsl, hfr6, hnx⟩ : ∃ s, R.g.steps[k]? = some s ∧ s.l < 4 ∧ fr ≤ 1000000 ∧ M3.circleGo R.on R.g.steps f (met ++ [fr]) (wd ++ M2.letterOf s.l) s.tt = some r := by
              rcases HCASE.out with ⟨i2, h1, -⟩ | ⟨-, h2⟩
              · rw [h1] at hnone; cases hnone
              · exact h2
            have hii : ¬ (i : Int) < (mn : Int) := by omega
            have HS : Hid (R.g.steps[k]? = some s) := hs
            have HNX : Hid (M3.circleGo R.on R.g.steps f (met ++ [fr]) (wd ++ M2.letterOf s.l) s.tt = some r) := hnx
            have hks : k < R.g.steps.length := (List.getElem?_eq_some_iff.1 hs).1
            obtain ⟨i0, hinf, hz0, hz1, hz2⟩ := info_parts Tryz.info3
            obtain ⟨l, hl⟩ : ∃ l, l = s.l := ⟨_, rfl⟩
            have HL : Hid (l = s.l) := hl
            rw [← hl] at hsl
            have HLC : Hid ((⟨#[97, 98, 99, 100]⟩ : ByteArray).extract l (l + 1) = ⟨(M2.letterOf l).toArray⟩) := letter_cut l hsl
            have hl1 : (l : Int) + 1 ≤ 4 := by omega
            have hl2 : (0 : Int) ≤ (l : Int) + 1 := by omega
            have hl5 : (l : Int) ≤ (l : Int) + 1 := by omega
            have hl6 : ((l : Int) + 1).toNat = l + 1 := by omega
            have hwr : IntKind.i64.wrap ((l : Int) + 1) = (l : Int) + 1 := by rw [IntKind.wrap_i64]; omega
            have hcat : ¬ 9223372036854775807 < WD.size + (min (l + 1) 4 - l) := by omega
            clear hix e1 hgi hi2 hnone hs hnx HCASE hl k9 co
            rw [← hWs] at hmn9
            have hmn9' : mn ≤ 100000 := by omega
            go_wp2_with (at_builtin; refine wpList_append_lies _ rfl _ _ 99 rfl 0 3 i0 _ 1 8 Tryz.underlying99 hinf hz0 hz1 hz2 rfl (by omega) (.slice mA mn mC) mn (met.flatMap InE.f) rfl (hown.alloc _) ⟨wr.heap.size, 0, none⟩ 1 1 [.int .i64 (fr : Int)] rfl rfl (World.news_of_block (cs := #[.int .i64 (fr : Int)]) (t := 3) (fr := (0, 0)) (heap_alloc_new wr _)) (by intro u hu; simp at hu; rw [hu]; rfl) (by omega) (by unfold maxLen; omega) (by omega) (by simp) (wr.heap.size + 1) (by simp) ?_)
            intro gg cap2 w7 hown7 hgrow hat hltt
            have hr7 : Row InE w7 (.slice (some ⟨gg, 0, none⟩) (mn + 1) cap2) (met ++ [fr]) := app_row HRW.out.2.1 rfl hown7
            have hf7 : Fresh wr (.slice mA mn mC) (.slice (some ⟨gg, 0, none⟩) (mn + 1) cap2) := app_fresh (H := wr.heap.size + 1) hat (by omega)
            have hm7 : Mod No w w7 := (hmd.alloc (Obj.cells #[.int .i64 (fr : Int)] 3)).grown hgrow (fun g hg hgl => by have := HRW.out.2.2.1 g hg; omega)
            have HR7 : Hid (Row InE w7 (.slice (some ⟨gg, 0, none⟩) (mn + 1) cap2) (met ++ [fr]) ∧ (∀ q, (Value.slice (some ⟨gg, 0, none⟩) (mn + 1) cap2).ownBlock = some q → w.heap.size ≤ q) ∧ Mod No w w7) := ⟨hr7, fun q hq => by
              rcases hf7 q hq with e | e
              · exact HRW.out.2.2.1 q e
              · have := hmd.size; omega, hm7⟩
            have HML : Hid (met.length = mn) := HRW.out.2.1
            have hS := HI.out.no hm7
            obtain ⟨SN, hSN⟩ : ∃ N, N = R.g.steps.length := ⟨_, rfl⟩
            obtain ⟨gs, sC, evs, -, -⟩ := hS.sp.form (by omega)
            rw [← hSN] at evs hks
            have hrs := hS.sp
            rw [evs] at hrs
            have hro := hS.on
            rw [HO.out.2] at hro
            obtain ⟨YA, hYA⟩ : ∃ X, X = (⟨s.s0.toArray⟩ : ByteArray) := ⟨_, rfl⟩
            obtain ⟨YB, hYB⟩ : ∃ X, X = (⟨s.s1.toArray⟩ : ByteArray) := ⟨_, rfl⟩
            have k9 := hS.blk.cell 9 rfl
            have K9 := hS.blk.cellA 9 rfl
            rw [HO.out.2] at k9 K9
            have k7 := hS.blk.cell 7 rfl
            have K7 := hS.blk.cellA 7 rfl
            rw [evs] at k7 K7
            have co := IzE.cell hro HO.out.1
            have CO := fun o => IzE.cell (hro.alloc o) HO.out.1
            have x0 : w7.cell? ⟨gs, k * 5, none⟩ = some (.int .i64 (s.fr : Int)) := hrs.cell k 0 HS.out rfl
            have x1 : w7.cell? ⟨gs, k * 5 + 1, none⟩ = some (.int .i64 (s.tt : Int)) := hrs.cell k 1 HS.out rfl
            have x2 : w7.cell? ⟨gs, k * 5 + 2, none⟩ = some (.int .i64 (l : Int)) := by rw [HL.out]; exact hrs.cell k 2 HS.out rfl
            have x3 : w7.cell? ⟨gs, k * 5 + 3, none⟩ = some (.string YA) := by rw [hYA]; exact hrs.cell k 3 HS.out rfl
            have x4 : w7.cell? ⟨gs, k * 5 + 4, none⟩ = some (.string YB) := by rw [hYB]; exact hrs.cell k 4 HS.out rfl
            have X0 : ∀ o, (w7.alloc o).cell? ⟨gs, k * 5, none⟩ = some (.int .i64 (s.fr : Int)) := fun o => (hrs.alloc o).cell k 0 HS.out rfl
            have X1 : ∀ o, (w7.alloc o).cell? ⟨gs, k * 5 + 1, none⟩ = some (.int .i64 (s.tt : Int)) := fun o => (hrs.alloc o).cell k 1 HS.out rfl
            have X2 : ∀ o, (w7.alloc o).cell? ⟨gs, k * 5 + 2, none⟩ = some (.int .i64 (l : Int)) := fun o => by rw [HL.out]; exact (hrs.alloc o).cell k 2 HS.out rfl
            have X3 : ∀ o, (w7.alloc o).cell? ⟨gs, k * 5 + 3, none⟩ = some (.string YA) := fun o => by rw [hYA]; exact (hrs.alloc o).cell k 3 HS.out rfl
            have X4 : ∀ o, (w7.alloc o).cell? ⟨gs, k * 5 + 4, none⟩ = some (.string YB) := fun o => by rw [hYB]; exact (hrs.alloc o).cell k 4 HS.out rfl
            have hki : (k : Int) < (SN : Int) := by omega
            clear hr7 hf7 hm7 hS hrs hro hSN evs hYA hYB hown7 hgrow hat hltt hown hinf hz0 hz1 hz2 HRW hmd
            go_wp2_with fail
            go_region
            all_goals
              have HW8 : Hid (Blk (w7.alloc (Obj.cells #[.int .i64 (s.fr : Int), .int .i64 (s.tt : Int), .int .i64 (l : Int), .string YA, .string YB] 229)).drew w7.heap.size [.int .i64 (s.fr : Int), .int .i64 (s.tt : Int), .int .i64 (l : Int), .string YA, .string YB] 229 ∧ Mod No w7 (w7.alloc (Obj.cells #[.int .i64 (s.fr : Int), .int .i64 (s.tt : Int), .int .i64 (l : Int), .string YA, .string YB] 229)).drew) := ⟨heap_alloc_new w7 _, ((Mod.refl _ _).alloc _).drew⟩
              generalize (w7.alloc (Obj.cells #[.int .i64 (s.fr : Int), .int .i64 (s.tt : Int), .int .i64 (l : Int), .string YA, .string YB] 229)).drew = W8 at HW8 ⊢
              clear x0 x1 x2 x3 x4 X0 X1 X2 X3 X4 k7 k9 K7 K9 co CO
              have y1 := HW8.out.1.cell 1 rfl
              have y2 := HW8.out.1.cell 2 rfl
              go_wp2
              go_roundg f
              case measure => omega
              case rel =>
                refine ⟨s.tt, met ++ [fr], wd ++ M2.letterOf s.l, rfl, ?_, HNX.out, ?_, ?_, HR7.out.1.no HW8.out.2, HR7.out.2.1, HR7.out.2.2.no HW8.out.2⟩
                · rw [HLC.out, HWD.out, str_cat, HL.out]
                · simp [hwl, M2.letterOf]
                · simp; omega
end Go.Proofs.YtmbapmbpnnaanabGreatDoor
