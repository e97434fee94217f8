import Derived.Test.YtmbapmbpnnaanabGreatDoorNO
namespace Go.Proofs.YtmbapmbpnnaanabGreatDoor.M3
open Go.Proofs.YtmbapmbpnnaanabGreatDoor.M2
def judgeGo (v : View) (R : GG) (found : List Fnd) (i here : Nat) : Nat → Int → Option (Option Wit)
  | 0, _ => none
  | n + 1, j => if j < 0 then
      match wordF found (-1) 100000 (i : Int) [], circleGo R.on R.g.steps 100000 [] [] here with
      | some tt, some (on, round, en) => if tt.length ≤ 1000000 ∧ on.length ≤ 1000000 then weigh v R.g.pairs (tt ++ on) round en else none
      | _, _ => none
    else match found[j.toNat]? with
      | none => none
      | some f => if f.pair = here then
          match wordF found (-1) 100000 j [], wordF found j 100000 (i : Int) [] with
          | some tt, some round => weigh v R.g.pairs tt round here
          | _, _ => none
        else judgeGo v R found i here n f.fr
def judge (v : View) (R : GG) (found : List Fnd) (i : Nat) : Option (Option Wit) :=
  match found[i]? with
  | none => none
  | some f => judgeGo v R found i f.pair 100000 f.fr
end Go.Proofs.YtmbapmbpnnaanabGreatDoor.M3
namespace Go.Proofs.YtmbapmbpnnaanabGreatDoor
open Go.RowKit
attribute [local go_sem ↓] Go.wp_at_zero Go.wp_at_succ

theorem judge_step {v : M2.View} {R : M3.GG} {found : List M2.Fnd} {i here n : Nat} {j : Int} {r : Option M2.Wit} (h : M3.judgeGo v R found i here (n + 1) j = some r) : (j < 0 ∧ ∃ tt on round en, M3.wordF found (-1) 100000 (i : Int) [] = some tt ∧ M3.circleGo R.on R.g.steps 100000 [] [] here = some (on, round, en) ∧ tt.length ≤ 1000000 ∧ on.length ≤ 1000000 ∧ M3.weigh v R.g.pairs (tt ++ on) round en = some r) ∨ (∃ k f, j = ((k : Nat) : Int) ∧ found[k]? = some f ∧ ((f.pair = here ∧ ∃ tt round, M3.wordF found (-1) 100000 j [] = some tt ∧ M3.wordF found j 100000 (i : Int) [] = some round ∧ M3.weigh v R.g.pairs tt round here = some r) ∨ (¬ f.pair = here ∧ M3.judgeGo v R found i here n f.fr = some r))) := by
  rw [M3.judgeGo] at h
  split at h
  · rename_i hc
    refine Or.inl ⟨hc, ?_⟩
    split at h
    · rename_i tt on round en ht hci
      split at h
      · rename_i hb
        exact ⟨tt, on, round, en, ht, hci, hb.1, hb.2, h⟩
      · cases h
    · cases h
  · rename_i hc
    split at h
    · cases h
    · rename_i f hf
      refine Or.inr ⟨j.toNat, f, by omega, hf, ?_⟩
      split at h
      · rename_i hp
        refine Or.inl ⟨hp, ?_⟩
        split at h
        · rename_i tt round h1 h2
          exact ⟨tt, round, h1, h2, h⟩
        · cases h
      · rename_i hp
        exact Or.inr ⟨hp, h⟩

set_option maxHeartbeats 1600000 in
set_option maxRecDepth 100000 in
theorem judge_any (w : World) (v : M2.View) (base S : Nat) (ka kw kh kd vp c5 vn vs vf vo fo la : Value) (R : M3.GG) (found : List M2.Fnd) (last : List Nat) (h : SG v base S ka kw kh kd vp c5 vn vs vf vo fo la R found last w) (i : Nat) {r : Option M2.Wit} (hM : M3.judge v R found i = some r) :
    Calls Tryz.prog 66 #[.pointer (some ⟨S, 0, none⟩), .int .i64 (i : Int)] w fun e w' => e = .returned (wiR r) ∧ Mod No w w' := by
  unfold M3.judge at hM
  split at hM
  · cases hM
  rename_i f hf
  obtain ⟨FN, hFN⟩ : ∃ F, F = found.length := ⟨_, rfl⟩
  have hk : i < FN := by rw [hFN]; exact (List.getElem?_eq_some_iff.1 hf).1
  obtain ⟨gf, fC, evf, hgf, -⟩ := h.rfo.form (by omega)
  rw [← hFN] at evf
  have hrf := h.rfo
  rw [evf] at hrf
  obtain ⟨here, hhere⟩ : ∃ p, p = f.pair := ⟨_, rfl⟩
  rw [← hhere] at hM
  obtain ⟨S1, hS1⟩ : ∃ X, X = (⟨(r.getD wit0).x.toArray⟩ : ByteArray) := ⟨_, rfl⟩
  obtain ⟨S2, hS2⟩ : ∃ X, X = (⟨(r.getD wit0).y.toArray⟩ : ByteArray) := ⟨_, rfl⟩
  obtain ⟨S3, hS3⟩ : ∃ X, X = (⟨(r.getD wit0).z1.toArray⟩ : ByteArray) := ⟨_, rfl⟩
  obtain ⟨S4, hS4⟩ : ∃ X, X = (⟨(r.getD wit0).z2.toArray⟩ : ByteArray) := ⟨_, rfl⟩
  obtain ⟨sc, hsc⟩ : ∃ X, X = (r.getD wit0).c := ⟨_, rfl⟩
  obtain ⟨sb, hsb⟩ : ∃ X, X = r.isSome := ⟨_, rfl⟩
  have HWI : Hid (wiR r = .tuple #[.agg #[.string S1, .string S2, .string S3, .string S4, .int .i64 (sc : Int)], .bool sb]) := by rw [hS1, hS2, hS3, hS4, hsc, hsb]; rfl
  have H58 : Hid (∀ wx x y at', Mod No w wx → M3.weigh v R.g.pairs x y at' = some r → Calls Tryz.prog 104 #[.pointer (some ⟨S, 0, none⟩), .string ⟨x.toArray⟩, .string ⟨y.toArray⟩, .int .i64 ((at' : Nat) : Int)] wx fun e w' => e = .returned (.tuple #[.agg #[.string S1, .string S2, .string S3, .string S4, .int .i64 (sc : Int)], .bool sb]) ∧ Mod No wx w') := fun wx x y at' hm hw => by
    have := weigh_any wx v base S ka kw kh kd vp c5 vn vs vf vo fo la R found last (h.no hm) x y at' hw
    rwa [HWI.out] at this
  have H57 : Hid (∀ wx (a b : Int) t, Mod No w wx → M3.wordF found b 100000 a [] = some t → Calls Tryz.prog 103 #[.pointer (some ⟨S, 0, none⟩), .int .i64 a, .int .i64 b] wx fun e w' => e = .returned (.string ⟨t.toArray⟩) ∧ Mod No wx w') := fun wx a b t hm hw => word'_any wx v base S ka kw kh kd vp c5 vn vs vf vo fo la R found last (h.no hm) a b hw
  have H59 : Hid (∀ wx rr, Mod No w wx → M3.circleGo R.on R.g.steps 100000 [] [] here = some rr → Calls Tryz.prog 105 #[.pointer (some ⟨S, 0, none⟩), .int .i64 (here : Int)] wx fun e w' => e = .returned (.tuple #[.string ⟨rr.1.toArray⟩, .string ⟨rr.2.1.toArray⟩, .int .i64 (rr.2.2 : Int)]) ∧ Mod No wx w') := fun wx rr hm hw => circle_any wx v base S ka kw kh kd vp c5 vn vs vf vo fo la R found last (h.no hm) here hw
  have HI : Hid (Row FnE w (.slice (some ⟨gf, 0, none⟩) FN fC) found ∧ Blk w S [ka, kw, kh, kd, vp, c5, vn, vs, vf, vo, .slice (some ⟨gf, 0, none⟩) FN fC, la] 176 ∧ found.length = FN) := ⟨hrf, by rw [← evf]; exact h.blk, hFN.symm⟩
  have HM : Hid (M3.judgeGo v R found i here 100000 f.fr = some r) := hM
  have K10 := h.blk.cellA 10 rfl
  rw [evf] at K10
  have X0 : ∀ o, (w.alloc o).cell? ⟨gf, i * 6, none⟩ = some (.int .i64 (here : Int)) := fun o => by rw [hhere]; exact (hrf.alloc o).cell i 0 hf rfl
  have X3 : ∀ o, (w.alloc o).cell? ⟨gf, i * 6 + 3, none⟩ = some (.int .i64 f.fr) := fun o => (hrf.alloc o).cell i 3 hf rfl
  have hki : (i : Int) < (FN : Int) := by omega
  have hk0 : (0 : Int) ≤ (i : Int) := by omega
  clear h hM hf hFN evf hrf hhere hS1 hS2 hS3 hS4 hsc hsb
  go_enter Tryz.func66, Tryz.ntmps66
  go_wp2_with fail
  have HW1 : Hid (Mod No w (w.alloc (Obj.cells #[.string ⟨#[]⟩, .string ⟨#[]⟩, .string ⟨#[]⟩, .string ⟨#[]⟩, .int .i64 0] 40)) ∧ Blk (w.alloc (Obj.cells #[.string ⟨#[]⟩, .string ⟨#[]⟩, .string ⟨#[]⟩, .string ⟨#[]⟩, .int .i64 0] 40)) w.heap.size [.string ⟨#[]⟩, .string ⟨#[]⟩, .string ⟨#[]⟩, .string ⟨#[]⟩, .int .i64 0] 40) := ⟨(Mod.refl _ _).alloc _, heap_alloc_new w _⟩
  generalize w.alloc (Obj.cells #[.string ⟨#[]⟩, .string ⟨#[]⟩, .string ⟨#[]⟩, .string ⟨#[]⟩, .int .i64 0] 40) = W1 at HW1 ⊢
  clear K10 X0 X3
  go_loopg [7] 100000 (fun gh v7 wr => ∃ j : Int, v7 = .int .i64 j ∧ M3.judgeGo v R found i here gh j = some r ∧ wr = W1)
  case atStart => exact ⟨_, rfl, HM.out, rfl⟩
  case round =>
    clear HM
    obtain ⟨j, rfl, hgo, rfl⟩ := hrel
    match gk, hgo with
    | 0, hgo => cases hgo
    | g + 1, hgo =>
      rcases judge_step hgo with ⟨hj, tt, on, round, en, ht, hci, htl, hol, hwe⟩ | ⟨k, x, hjk, hx, hcase⟩
      · have hj1 : ¬ (0 : Int) ≤ j := by omega
        have h57 := H57.out wr (i : Int) (-1) tt HW1.out.1 ht
        obtain ⟨TT, hTT⟩ : ∃ X, X = (⟨tt.toArray⟩ : ByteArray) := ⟨_, rfl⟩
        obtain ⟨ON, hON⟩ : ∃ X, X = (⟨on.toArray⟩ : ByteArray) := ⟨_, rfl⟩
        obtain ⟨RO, hRO⟩ : ∃ X, X = (⟨round.toArray⟩ : ByteArray) := ⟨_, rfl⟩
        rw [← hTT] at h57
        have h59 := fun wx hm => H59.out wx (on, round, en) hm hci
        simp only [← hON, ← hRO] at h59
        have H59' : Hid (∀ wx, Mod No w wx → Calls Tryz.prog 105 #[.pointer (some ⟨S, 0, none⟩), .int .i64 (here : Int)] wx fun e w' => e = .returned (.tuple #[.string ON, .string RO, .int .i64 (en : Int)]) ∧ Mod No wx w') := h59
        have H58' : Hid (∀ wx, Mod No w wx → Calls Tryz.prog 104 #[.pointer (some ⟨S, 0, none⟩), .string (TT ++ ON), .string RO, .int .i64 (en : Int)] wx fun e w' => e = .returned (.tuple #[.agg #[.string S1, .string S2, .string S3, .string S4, .int .i64 (sc : Int)], .bool sb]) ∧ Mod No wx w') := fun wx hm => by
          have := H58.out wx (tt ++ on) round en hm hwe
          rw [← str_cat, ← hTT, ← hON, ← hRO] at this
          exact this
        have hs1 : TT.size ≤ 1000000 := by rw [hTT, str_size]; exact htl
        have hs2 : ON.size ≤ 1000000 := by rw [hON, str_size]; exact hol
        have hcat : ¬ 9223372036854775807 < TT.size + ON.size := by omega
        clear hgo ht hci hwe hTT hON hRO h59 H57 H58 H59
        go_wp2_with fail
        refine h57.mono ?_
        rintro e w2 ⟨rfl, m2⟩
        have HW2 : Hid (Mod No w w2 ∧ Blk w2 w.heap.size [.string ⟨#[]⟩, .string ⟨#[]⟩, .string ⟨#[]⟩, .string ⟨#[]⟩, .int .i64 0] 40) := ⟨HW1.out.1.no m2, HW1.out.2.mod m2 (fun x => x)⟩
        clear h57 m2 HW1
        go_wp2_with fail
        refine (H59'.out _ HW2.out.1).mono ?_
        rintro e w3 ⟨rfl, m3⟩
        have HW3 : Hid (Mod No w w3 ∧ Blk w3 w.heap.size [.string ⟨#[]⟩, .string ⟨#[]⟩, .string ⟨#[]⟩, .string ⟨#[]⟩, .int .i64 0] 40) := ⟨HW2.out.1.no m3, HW2.out.2.mod m3 (fun x => x)⟩
        clear m3 HW2
        go_wp2_with fail
        refine (H58'.out _ HW3.out.1).mono ?_
        rintro e w4 ⟨rfl, m4⟩
        have HW4 : Hid (Mod No w w4 ∧ Blk w4 w.heap.size [.string ⟨#[]⟩, .string ⟨#[]⟩, .string ⟨#[]⟩, .string ⟨#[]⟩, .int .i64 0] 40) := ⟨HW3.out.1.no m4, HW3.out.2.mod m4 (fun x => x)⟩
        clear m4 HW3
        have u0 := HW4.out.2.cell 0 rfl
        have u1 := HW4.out.2.cell 1 rfl
        have u2 := HW4.out.2.cell 2 rfl
        have u3 := HW4.out.2.cell 3 rfl
        have u4 := HW4.out.2.cell 4 rfl
        have f0 := HW4.out.2.free 0
        have f1 := HW4.out.2.free 1
        have f2 := HW4.out.2.free 2
        have f3 := HW4.out.2.free 3
        have f4 := HW4.out.2.free 4
        go_wp2
        refine bodyPost_ret (v := .tuple #[.agg #[.string S1, .string S2, .string S3, .string S4, .int .i64 (sc : Int)], .bool sb]) (by simp [results, Tryz.results66, go_sem, u0, u1, u2, u3, u4]) rfl ?_
        refine ⟨by rw [HWI.out], ?_⟩
        exact ((((HW4.out.1.setCell (a := ⟨w.heap.size, 0, none⟩) (fun e => absurd e (Nat.lt_irrefl _)) _).setCell (a := ⟨w.heap.size, 1, none⟩) (fun e => absurd e (Nat.lt_irrefl _)) _).setCell (a := ⟨w.heap.size, 2, none⟩) (fun e => absurd e (Nat.lt_irrefl _)) _).setCell (a := ⟨w.heap.size, 3, none⟩) (fun e => absurd e (Nat.lt_irrefl _)) _).setCell (a := ⟨w.heap.size, 4, none⟩) (fun e => absurd e (Nat.lt_irrefl _)) _
      · subst hjk
        have hkF : k < FN := by rw [← HI.out.2.2]; exact (List.getElem?_eq_some_iff.1 hx).1
        have hrf := HI.out.1.no HW1.out.1
        have x0 : wr.cell? ⟨gf, k * 6, none⟩ = some (.int .i64 (x.pair : Int)) := hrf.cell k 0 hx rfl
        have x3 : wr.cell? ⟨gf, k * 6 + 3, none⟩ = some (.int .i64 x.fr) := hrf.cell k 3 hx rfl
        have k10 := (HI.out.2.1.mod HW1.out.1 (fun x => x)).cell 10 rfl
        have hkk : (k : Int) < (FN : Int) := by omega
        have hkk0 : (0 : Int) ≤ (k : Int) := by omega
        rcases hcase with ⟨hp, tt, round, ht, hro, hwe⟩ | ⟨hp, hnx⟩
        · rw [hp] at x0
          have h57 := H57.out wr (k : Int) (-1) tt HW1.out.1 ht
          obtain ⟨TT, hTT⟩ : ∃ X, X = (⟨tt.toArray⟩ : ByteArray) := ⟨_, rfl⟩
          obtain ⟨RO, hRO⟩ : ∃ X, X = (⟨round.toArray⟩ : ByteArray) := ⟨_, rfl⟩
          rw [← hTT] at h57
          have H57' : Hid (∀ wx, Mod No w wx → Calls Tryz.prog 103 #[.pointer (some ⟨S, 0, none⟩), .int .i64 (i : Int), .int .i64 (k : Int)] wx fun e w' => e = .returned (.string RO) ∧ Mod No wx w') := fun wx hm => by
            rw [hRO]; exact H57.out wx (i : Int) (k : Int) round hm hro
          have H58' : Hid (∀ wx, Mod No w wx → Calls Tryz.prog 104 #[.pointer (some ⟨S, 0, none⟩), .string TT, .string RO, .int .i64 (here : Int)] wx fun e w' => e = .returned (.tuple #[.agg #[.string S1, .string S2, .string S3, .string S4, .int .i64 (sc : Int)], .bool sb]) ∧ Mod No wx w') := fun wx hm => by
            have := H58.out wx tt round here hm hwe
            rw [← hTT, ← hRO] at this
            exact this
          clear hgo ht hro hwe hTT hRO H57 H58 H59 hrf hx hp
          go_wp2_with fail
          refine h57.mono ?_
          rintro e w2 ⟨rfl, m2⟩
          have HW2 : Hid (Mod No w w2 ∧ Blk w2 w.heap.size [.string ⟨#[]⟩, .string ⟨#[]⟩, .string ⟨#[]⟩, .string ⟨#[]⟩, .int .i64 0] 40) := ⟨HW1.out.1.no m2, HW1.out.2.mod m2 (fun x => x)⟩
          clear h57 m2 HW1 x0 x3 k10
          go_wp2_with fail
          refine (H57'.out _ HW2.out.1).mono ?_
          rintro e w3 ⟨rfl, m3⟩
          have HW3 : Hid (Mod No w w3 ∧ Blk w3 w.heap.size [.string ⟨#[]⟩, .string ⟨#[]⟩, .string ⟨#[]⟩, .string ⟨#[]⟩, .int .i64 0] 40) := ⟨HW2.out.1.no m3, HW2.out.2.mod m3 (fun x => x)⟩
          clear m3 HW2
          go_wp2_with fail
          refine (H58'.out _ HW3.out.1).mono ?_
          rintro e w4 ⟨rfl, m4⟩
          have HW4 : Hid (Mod No w w4 ∧ Blk w4 w.heap.size [.string ⟨#[]⟩, .string ⟨#[]⟩, .string ⟨#[]⟩, .string ⟨#[]⟩, .int .i64 0] 40) := ⟨HW3.out.1.no m4, HW3.out.2.mod m4 (fun x => x)⟩
          clear m4 HW3
          have u0 := HW4.out.2.cell 0 rfl
          have u1 := HW4.out.2.cell 1 rfl
          have u2 := HW4.out.2.cell 2 rfl
          have u3 := HW4.out.2.cell 3 rfl
          have u4 := HW4.out.2.cell 4 rfl
          have f0 := HW4.out.2.free 0
          have f1 := HW4.out.2.free 1
          have f2 := HW4.out.2.free 2
          have f3 := HW4.out.2.free 3
          have f4 := HW4.out.2.free 4
          go_wp2
          refine bodyPost_ret (v := .tuple #[.agg #[.string S1, .string S2, .string S3, .string S4, .int .i64 (sc : Int)], .bool sb]) (by simp [results, Tryz.results66, go_sem, u0, u1, u2, u3, u4]) rfl ?_
          refine ⟨by rw [HWI.out], ?_⟩
          exact ((((HW4.out.1.setCell (a := ⟨w.heap.size, 0, none⟩) (fun e => absurd e (Nat.lt_irrefl _)) _).setCell (a := ⟨w.heap.size, 1, none⟩) (fun e => absurd e (Nat.lt_irrefl _)) _).setCell (a := ⟨w.heap.size, 2, none⟩) (fun e => absurd e (Nat.lt_irrefl _)) _).setCell (a := ⟨w.heap.size, 3, none⟩) (fun e => absurd e (Nat.lt_irrefl _)) _).setCell (a := ⟨w.heap.size, 4, none⟩) (fun e => absurd e (Nat.lt_irrefl _)) _
        · have hpb : ((x.pair : Int) == (here : Int)) = false := by rw [beq_eq_false_iff_ne]; omega
          have HNX : Hid (M3.judgeGo v R found i here g x.fr = some r) := hnx
          clear hgo hnx hrf hx hp
          go_wp2
          go_roundg g
          case measure => omega
          case rel => exact ⟨_, rfl, HNX.out, rfl⟩
end Go.Proofs.YtmbapmbpnnaanabGreatDoor
namespace Go.Proofs.YtmbapmbpnnaanabGreatDoor.M3
open Go.Proofs.YtmbapmbpnnaanabGreatDoor.M2
def findGo (v : View) (R : GG) : Nat → Nat → List Fnd → List Nat → Option (Option Wit)
  | 0, _, _, _ => none
  | n + 1, i, found, last => if i < found.length then
      match judge v R found i with
      | none => none
      | some (some x) => some (some x)
      | some none => match goOn R i found last with
        | none => none
        | some (f2, l2) => findGo v R n (i + 1) f2 l2
    else some none
def find (v : View) : Option (Option Wit) :=
  match graph v with
  | none => none
  | some R => if R.g.pairs.length ≤ 100000 ∧ R.st ≤ 100000 then
      match beginGo R.on R.st 0 [] (List.replicate R.g.pairs.length 0) with
      | none => none
      | some (found, last) => findGo v R 100000 0 found last
    else none
end Go.Proofs.YtmbapmbpnnaanabGreatDoor.M3
namespace Go.Proofs.YtmbapmbpnnaanabGreatDoor
open Go.RowKit
attribute [local go_sem ↓] Go.wp_at_zero Go.wp_at_succ

theorem findGo_step {v : M2.View} {R : M3.GG} {n i : Nat} {found : List M2.Fnd} {last : List Nat} {r : Option M2.Wit} (h : M3.findGo v R (n + 1) i found last = some r) : (¬ i < found.length ∧ r = none) ∨ (i < found.length ∧ ((∃ x, M3.judge v R found i = some (some x) ∧ r = some x) ∨ (M3.judge v R found i = some none ∧ ∃ f2 l2, M3.goOn R i found last = some (f2, l2) ∧ M3.findGo v R n (i + 1) f2 l2 = some r))) := by
  rw [M3.findGo] at h
  split at h
  · rename_i hc
    refine Or.inr ⟨hc, ?_⟩
    split at h
    · cases h
    · rename_i x hj
      exact Or.inl ⟨x, hj, (Option.some.inj h).symm⟩
    · rename_i hj
      split at h
      · cases h
      · rename_i f2 l2 hg
        exact Or.inr ⟨hj, f2, l2, hg, h⟩
  · rename_i hc
    exact Or.inl ⟨hc, (Option.some.inj h).symm⟩
theorem find_spec {v : M2.View} {r : Option M2.Wit} (h : M3.find v = some r) : ∃ R found last, M3.graph v = some R ∧ R.g.pairs.length ≤ 100000 ∧ R.st ≤ 100000 ∧ M3.beginGo R.on R.st 0 [] (List.replicate R.g.pairs.length 0) = some (found, last) ∧ M3.findGo v R 100000 0 found last = some r := by
  unfold M3.find at h
  split at h
  · cases h
  · rename_i R hR
    split at h
    · rename_i hc
      split at h
      · cases h
      · rename_i found last hb
        exact ⟨R, found, last, hR, hc.1, hc.2, hb, h⟩
    · cases h
theorem isSl_open {v : Value} (h : IsSl v) : ∃ a n c, v = .slice a n c := h
/-- What a call of Find leaves: the search, and the block of the result. -/
structure FD (w : World) (v : M2.View) (base S T : Nat) (ka kw kh kd vp c5 vn vs vf vo fo la : Value) (R : M3.GG) (found : List M2.Fnd) (last : List Nat) (wr : World) : Prop where
  sg : SG v base S ka kw kh kd vp c5 vn vs vf vo fo la R found last wr
  md : Mod No w wr
  tb : Blk wr T [.string ⟨#[]⟩, .string ⟨#[]⟩, .string ⟨#[]⟩, .string ⟨#[]⟩, .int .i64 0] 40
  ff : ∀ q, fo.ownBlock = some q → w.heap.size ≤ q
  fl : ∀ q, la.ownBlock = some q → w.heap.size ≤ q
section
variable {w : World} {v : M2.View} {base S T : Nat} {ka kw kh kd vp c5 vn vs vf vo fo la : Value} {R : M3.GG} {found : List M2.Fnd} {last : List Nat} {wr wr' : World}
theorem FD.no (h : FD w v base S T ka kw kh kd vp c5 vn vs vf vo fo la R found last wr) (hm : Mod No wr wr') : FD w v base S T ka kw kh kd vp c5 vn vs vf vo fo la R found last wr' := ⟨h.sg.no hm, h.md.no hm, h.tb.mod hm (fun x => x), h.ff, h.fl⟩
theorem FD.on {fo' : Value} {f2 : List M2.Fnd} {l2 : List Nat} (h : FD w v base S T ka kw kh kd vp c5 vn vs vf vo fo la R found last wr) (hS : w.heap.size ≤ S) (ha : SAc wr v base S ka kw kh kd vp c5 vn vs vf vo fo fo' la R f2 l2 wr') : FD w v base S T ka kw kh kd vp c5 vn vs vf vo fo' la R f2 l2 wr' := by
  refine ⟨ha.sg, h.md.trans' ha.md (fun k hk e => ?_), h.tb.mod ha.md (fun e => ?_), fun q hq => ?_, h.fl⟩
  · rcases e with e | e | e
    · exact absurd hk (by omega)
    · exact absurd hk (by have := h.ff k e; omega)
    · exact absurd hk (by have := h.fl k e; omega)
  · rcases e with e | e | e
    · exact h.tb.diff h.sg.blk (by decide) e
    · exact h.tb.apart h.sg.rfo (by decide) e
    · exact h.tb.apart h.sg.rla (by decide) e
  · rcases ha.ff q hq with e | e
    · exact h.ff q e
    · exact Nat.le_trans h.md.size e
end

set_option maxHeartbeats 1600000 in
set_option maxRecDepth 100000 in
theorem find_any (w : World) (v : M2.View) (base : Nat) (ka kw kh kd : Value) (hv : VP v base ka kw kh kd w) {r : Option M2.Wit} (hM : M3.find v = some r) :
    Calls Tryz.prog 37 #[.agg #[ka, kw, kh, kd]] w fun e w' => e = .returned (wiR r) ∧ Mod No w w' := by
  obtain ⟨R, found0, last0, hG, hpl, hst, hbg, hfg⟩ := find_spec hM
  obtain ⟨a1, n1, c1, e1⟩ := hv.ah.sl
  obtain ⟨a2, n2, c2, e2⟩ := hv.wo.sl
  obtain ⟨a3, n3, c3, e3⟩ := hv.hi.sl
  obtain ⟨a4, n4, c4, e4⟩ := hv.de.sl
  have HE : Hid (ka = .slice a1 n1 c1 ∧ kw = .slice a2 n2 c2 ∧ kh = .slice a3 n3 c3 ∧ kd = .slice a4 n4 c4) := ⟨e1, e2, e3, e4⟩
  have HV : Hid (VP v base ka kw kh kd w) := hv
  obtain ⟨S1, hS1⟩ : ∃ X, X = (⟨(r.getD wit0).x.toArray⟩ : ByteArray) := ⟨_, rfl⟩
  obtain ⟨S2, hS2⟩ : ∃ X, X = (⟨(r.getD wit0).y.toArray⟩ : ByteArray) := ⟨_, rfl⟩
  obtain ⟨S3, hS3⟩ : ∃ X, X = (⟨(r.getD wit0).z1.toArray⟩ : ByteArray) := ⟨_, rfl⟩
  obtain ⟨S4, hS4⟩ : ∃ X, X = (⟨(r.getD wit0).z2.toArray⟩ : ByteArray) := ⟨_, rfl⟩
  obtain ⟨sc, hsc⟩ : ∃ X, X = (r.getD wit0).c := ⟨_, rfl⟩
  obtain ⟨sb, hsb⟩ : ∃ X, X = r.isSome := ⟨_, rfl⟩
  have HWI : Hid (wiR r = .tuple #[.agg #[.string S1, .string S2, .string S3, .string S4, .int .i64 (sc : Int)], .bool sb]) := by rw [hS1, hS2, hS3, hS4, hsc, hsb]; rfl
  have HW0 : Hid (wiR none = .tuple #[.agg #[.string ⟨#[]⟩, .string ⟨#[]⟩, .string ⟨#[]⟩, .string ⟨#[]⟩, .int .i64 0], .bool false]) := rfl
  have HSB : Hid (sb = r.isSome) := hsb
  have HB : Hid (R.g.pairs.length ≤ 100000 ∧ R.st ≤ 100000 ∧ M3.beginGo R.on R.st 0 [] (List.replicate R.g.pairs.length 0) = some (found0, last0) ∧ M3.findGo v R 100000 0 found0 last0 = some r) := ⟨hpl, hst, hbg, hfg⟩
  have HG : Hid (∀ wx, Mod No w wx → Calls Tryz.prog 64 #[.agg #[.slice a1 n1 c1, .slice a2 n2 c2, .slice a3 n3 c3, .slice a4 n4 c4]] wx fun e w' => GPost R v base ka kw kh kd wx e w') := fun wx hm => by
    have := newGraph_any wx v base ka kw kh kd (HV.out.no hm) hG
    rw [HE.out.1, HE.out.2.1, HE.out.2.2.1, HE.out.2.2.2] at this ⊢
    exact this
  rw [e1, e2, e3, e4]
  clear hv hM hG hpl hst hbg hfg e1 e2 e3 e4 hS1 hS2 hS3 hS4 hsc hsb
  go_enter Tryz.func37, Tryz.ntmps37
  go_wp2_with fail
  have HW1 : Hid (Mod No w ((w.alloc (Obj.cells #[.slice a1 n1 c1, .slice a2 n2 c2, .slice a3 n3 c3, .slice a4 n4 c4] 90)).alloc (Obj.cells #[.string ⟨#[]⟩, .string ⟨#[]⟩, .string ⟨#[]⟩, .string ⟨#[]⟩, .int .i64 0] 40)) ∧ Blk ((w.alloc (Obj.cells #[.slice a1 n1 c1, .slice a2 n2 c2, .slice a3 n3 c3, .slice a4 n4 c4] 90)).alloc (Obj.cells #[.string ⟨#[]⟩, .string ⟨#[]⟩, .string ⟨#[]⟩, .string ⟨#[]⟩, .int .i64 0] 40)) (w.heap.size + 1) [.string ⟨#[]⟩, .string ⟨#[]⟩, .string ⟨#[]⟩, .string ⟨#[]⟩, .int .i64 0] 40) := ⟨((Mod.refl _ _).alloc _).alloc _, by
    have := heap_alloc_new (w.alloc (Obj.cells #[.slice a1 n1 c1, .slice a2 n2 c2, .slice a3 n3 c3, .slice a4 n4 c4] 90)) (Obj.cells #[.string ⟨#[]⟩, .string ⟨#[]⟩, .string ⟨#[]⟩, .string ⟨#[]⟩, .int .i64 0] 40)
    simpa [Blk] using this⟩
  refine (HG.out _ HW1.out.1).mono ?_
  rintro e w1 ⟨m1, vp, vn, vs, vf, vo, rfl, hvp, hpr, hvn, hvs, hvf, hvo⟩
  obtain ⟨a5, n5, c5, e5⟩ := hpr.sl
  obtain ⟨a6, n6, c6, e6⟩ := hvn
  obtain ⟨a7, n7, c7, e7⟩ := hvs.sl
  obtain ⟨a8, n8, c8, e8⟩ := hvf.sl
  obtain ⟨a9, n9, c9, e9⟩ := hvo.sl
  obtain ⟨w2, hw2⟩ : ∃ y, w1.alloc (Obj.cells #[.slice a1 n1 c1, .slice a2 n2 c2, .slice a3 n3 c3, .slice a4 n4 c4, .slice a5 n5 c5, .int .i64 (R.st : Int), .slice a6 n6 c6, .slice a7 n7 c7, .slice a8 n8 c8, .slice a9 n9 c9, .slice none 0 0, .slice none 0 0] 176) = y := ⟨_, rfl⟩
  have hm12 : Mod No w1 w2 := by rw [← hw2]; exact (Mod.refl _ _).alloc _
  have HW2 : Hid (SG v base w1.heap.size ka kw kh kd vp (.int .i64 (R.st : Int)) vn vs vf vo nilS nilS R [] [] w2 ∧ Mod No w w2 ∧ Blk w2 (w.heap.size + 1) [.string ⟨#[]⟩, .string ⟨#[]⟩, .string ⟨#[]⟩, .string ⟨#[]⟩, .int .i64 0] 40) := by
    refine ⟨⟨?_, hvp.no hm12, hpr.no hm12, hvs.no hm12, hvf.no hm12, hvo.no hm12, Row.nil _ _, Row.nil _ _, (fun q hq => by cases hq), (fun q hq => by cases hq)⟩, (HW1.out.1.no m1).no hm12, (HW1.out.2.mod m1 (fun x => x)).mod hm12 (fun x => x)⟩
    rw [HE.out.1, HE.out.2.1, HE.out.2.2.1, HE.out.2.2.2, e5, e6, e7, e8, e9, ← hw2]
    exact heap_alloc_new w1 _
  have h27 := begin_any w2 v base w1.heap.size ka kw kh kd vp vn vs vf vo R HW2.out.1 HB.out.1 HB.out.2.1 HB.out.2.2.1
  have HSZ : Hid (w.heap.size ≤ w1.heap.size ∧ w.heap.size ≤ w2.heap.size) := by
    have h1 := (HW1.out.1.no m1).size
    have h2 := hm12.size
    exact ⟨h1, by omega⟩
  have HEE : Hid (vp = .slice a5 n5 c5 ∧ vn = .slice a6 n6 c6 ∧ vs = .slice a7 n7 c7 ∧ vf = .slice a8 n8 c8 ∧ vo = .slice a9 n9 c9) := ⟨e5, e6, e7, e8, e9⟩
  rw [HE.out.1, HE.out.2.1, HE.out.2.2.1, HE.out.2.2.2, e5, e6, e7, e8, e9]
  have HW2E : Hid (w1.alloc (Obj.cells #[.slice a1 n1 c1, .slice a2 n2 c2, .slice a3 n3 c3, .slice a4 n4 c4, .slice a5 n5 c5, .int .i64 (R.st : Int), .slice a6 n6 c6, .slice a7 n7 c7, .slice a8 n8 c8, .slice a9 n9 c9, .slice none 0 0, .slice none 0 0] 176) = w2) := hw2
  clear m1 hvp hpr hvs hvf hvo e5 e6 e7 e8 e9 hm12 HW1 HG hw2
  go_wp2_with fail
  rw [HW2E.out]
  refine h27.mono ?_
  rintro e w3 ⟨rfl, fo, la, hsg, hm3, hff, hfl⟩
  obtain ⟨S, hS⟩ : ∃ S, S = w1.heap.size := ⟨_, rfl⟩
  rw [← hS] at hsg hm3 ⊢
  have HS : Hid (w.heap.size ≤ S) := by rw [hS]; exact HSZ.out.1
  obtain ⟨T, hT⟩ : ∃ T, T = w.heap.size + 1 := ⟨_, rfl⟩
  have HT : Hid (T = w.heap.size + 1) := hT
  have HF3 : Hid (FD w v base S T ka kw kh kd vp (.int .i64 (R.st : Int)) vn vs vf vo fo la R found0 last0 w3) := by
    refine ⟨hsg, HW2.out.2.1.trans' hm3 (fun k hk e => absurd hk (by have := HS.out; omega)), ?_, fun q hq => Nat.le_trans HSZ.out.2 (hff q hq), fun q hq => Nat.le_trans HSZ.out.2 (hfl q hq)⟩
    rw [hT]
    exact HW2.out.2.2.mod hm3 (fun e => HW2.out.2.2.diff HW2.out.1.blk (by decide) (by rw [e, hS]))
  have HB4 : Hid (M3.findGo v R 100000 0 found0 last0 = some r) := HB.out.2.2.2
  rw [← hT]
  clear h27 hsg hm3 hff hfl hS hT HW2 HB HSZ
  go_wp2_with fail
  go_loopg [5] 100000 (fun gh v5 wr => ∃ (i : Nat) (found : List M2.Fnd) (last : List Nat) (fo la : Value), v5 = .int .i64 (i : Int) ∧ M3.findGo v R gh i found last = some r ∧ FD w v base S T ka kw kh kd vp (.int .i64 (R.st : Int)) vn vs vf vo fo la R found last wr)
  case atStart => exact ⟨0, found0, last0, fo, la, rfl, HB4.out, HF3.out⟩
  case round =>
    clear HB4 HF3
    obtain ⟨i, found, last, fo, la, rfl, hgo, hI⟩ := hrel
    have HI : Hid (FD w v base S T ka kw kh kd vp (.int .i64 (R.st : Int)) vn vs vf vo fo la R found last wr) := hI
    obtain ⟨FN, hFN⟩ : ∃ F, F = found.length := ⟨_, rfl⟩
    obtain ⟨fA, fC, evf, -, -⟩ := hI.sg.rfo.open hFN.symm
    have k10 := hI.sg.blk.cell 10 rfl
    rw [evf] at k10
    match gk, hgo with
    | 0, hgo => cases hgo
    | n + 1, hgo =>
      rcases findGo_step hgo with ⟨hni, hr⟩ | ⟨hni, hcase⟩
      · have hlt : ¬ (i : Int) < (FN : Int) := by omega
        have HR : Hid (r = none) := hr
        have t0 := hI.tb.cell 0 rfl
        have t1 := hI.tb.cell 1 rfl
        have t2 := hI.tb.cell 2 rfl
        have t3 := hI.tb.cell 3 rfl
        have t4 := hI.tb.cell 4 rfl
        have f0 := hI.tb.free 0
        have f1 := hI.tb.free 1
        have f2 := hI.tb.free 2
        have f3 := hI.tb.free 3
        have f4 := hI.tb.free 4
        have HT' : Hid (¬ T < w.heap.size) := by show ¬ T < w.heap.size; rw [HT.out]; omega
        clear hI hgo hFN evf hni hr
        go_wp2
        refine bodyPost_ret (v := .tuple #[.agg #[.string ⟨#[]⟩, .string ⟨#[]⟩, .string ⟨#[]⟩, .string ⟨#[]⟩, .int .i64 0], .bool false]) (by simp [results, Tryz.results37, go_sem, t0, t1, t2, t3, t4]) rfl ?_
        refine ⟨by rw [HR.out]; rfl, ?_⟩
        exact ((((HI.out.md.setCell (a := ⟨T, 0, none⟩) (fun e => absurd e HT'.out) _).setCell (a := ⟨T, 1, none⟩) (fun e => absurd e HT'.out) _).setCell (a := ⟨T, 2, none⟩) (fun e => absurd e HT'.out) _).setCell (a := ⟨T, 3, none⟩) (fun e => absurd e HT'.out) _).setCell (a := ⟨T, 4, none⟩) (fun e => absurd e HT'.out) _
      · have hlt : (i : Int) < (FN : Int) := by omega
        rcases hcase with ⟨x, hj, hr⟩ | ⟨hj, f2, l2, hon, hgo2⟩
        · have h28 := judge_any wr v base S ka kw kh kd vp (.int .i64 (R.st : Int)) vn vs vf vo fo la R found last hI.sg i hj
          rw [← hr, HWI.out] at h28
          have HSB2 : Hid (sb = true) := by
            show sb = true
            rw [HSB.out, hr]; rfl
          rw [HSB2.out] at h28
          clear hI hgo hFN evf hni hj hr
          go_wp2_with fail
          refine h28.mono ?_
          rintro e w5 ⟨rfl, m5⟩
          have HI5 : Hid (FD w v base S T ka kw kh kd vp (.int .i64 (R.st : Int)) vn vs vf vo fo la R found last w5) := HI.out.no m5
          have t0 := HI5.out.tb.cellA 0 rfl
          have t1 := HI5.out.tb.cellA 1 rfl
          have t2 := HI5.out.tb.cellA 2 rfl
          have t3 := HI5.out.tb.cellA 3 rfl
          have t4 := HI5.out.tb.cellA 4 rfl
          have f0 := HI5.out.tb.freeA 0
          have f1 := HI5.out.tb.freeA 1
          have f2 := HI5.out.tb.freeA 2
          have f3 := HI5.out.tb.freeA 3
          have f4 := HI5.out.tb.freeA 4
          have hTn : ¬ T = w5.heap.size := by have := HI5.out.tb.lt; omega
          have HT' : Hid (¬ T < w.heap.size) := by show ¬ T < w.heap.size; rw [HT.out]; omega
          clear h28 m5 k10 HI
          go_wp2
          refine bodyPost_ret (v := .tuple #[.agg #[.string S1, .string S2, .string S3, .string S4, .int .i64 (sc : Int)], .bool true]) (by simp [results, Tryz.results37, go_sem, t0, t1, t2, t3, t4]) rfl ?_
          refine ⟨by rw [HWI.out, HSB2.out], ?_⟩
          exact (((((HI5.out.md.alloc _).setCell (a := ⟨T, 0, none⟩) (fun e => absurd e HT'.out) _).setCell (a := ⟨T, 1, none⟩) (fun e => absurd e HT'.out) _).setCell (a := ⟨T, 2, none⟩) (fun e => absurd e HT'.out) _).setCell (a := ⟨T, 3, none⟩) (fun e => absurd e HT'.out) _).setCell (a := ⟨T, 4, none⟩) (fun e => absurd e HT'.out) _
        · have h28 := judge_any wr v base S ka kw kh kd vp (.int .i64 (R.st : Int)) vn vs vf vo fo la R found last hI.sg i hj
          rw [HW0.out] at h28
          have hb2 := (goOn_spec hon)
          obtain ⟨-, -, -, -, -, -, -, -, -, hfl, -, -⟩ := hb2
          have hi2 : i ≤ 200000 := by omega
          have HON : Hid (M3.goOn R i found last = some (f2, l2) ∧ M3.findGo v R n (i + 1) f2 l2 = some r) := ⟨hon, hgo2⟩
          clear hI hgo hFN evf hni hj hon hgo2 hfl
          go_wp2_with fail
          refine h28.mono ?_
          rintro e w5 ⟨rfl, m5⟩
          have HI6 : Hid (FD w v base S T ka kw kh kd vp (.int .i64 (R.st : Int)) vn vs vf vo fo la R found last (w5.alloc (Obj.cells #[.string ⟨#[]⟩, .string ⟨#[]⟩, .string ⟨#[]⟩, .string ⟨#[]⟩, .int .i64 0] 40))) := (HI.out.no m5).no ((Mod.refl _ _).alloc _)
          clear h28 m5 k10 HI
          go_wp2_with fail
          generalize w5.alloc (Obj.cells #[.string ⟨#[]⟩, .string ⟨#[]⟩, .string ⟨#[]⟩, .string ⟨#[]⟩, .int .i64 0] 40) = w6 at HI6 ⊢
          refine (goOn_any w6 v base S ka kw kh kd vp (.int .i64 (R.st : Int)) vn vs vf vo fo la R found last HI6.out.sg i HON.out.1).mono ?_
          rintro e w7 ⟨rfl, fo', hac⟩
          have HI7 : Hid (FD w v base S T ka kw kh kd vp (.int .i64 (R.st : Int)) vn vs vf vo fo' la R f2 l2 w7) := HI6.out.on HS.out hac
          clear hac HI6
          go_wp2
          go_roundg n
          case measure => omega
          case rel => exact ⟨i + 1, f2, l2, fo', la, by go_num, HON.out.2, HI7.out⟩
end Go.Proofs.YtmbapmbpnnaanabGreatDoor
