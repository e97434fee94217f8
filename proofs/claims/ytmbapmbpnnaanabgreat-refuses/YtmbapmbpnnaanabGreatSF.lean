import Derived.Test.YtmbapmbpnnaanabGreatSE
import Derived.Test.YtmbapmbpnnaanabGreatKY
namespace Go.Proofs.YtmbapmbpnnaanabGreat.Ld
open Go.RowKit

theorem ints_row {w : World} {v : Value} {xs : List Nat} (h : Ints w v xs) : Row InE w v xs := by
  have e : xs.flatMap InE.f = xs.map fun (x : Nat) => Value.int .i64 (x : Int) := by
    clear h
    induction xs with
    | nil => rfl
    | cons a xs ih => rw [List.flatMap_cons, List.map_cons, ih]; rfl
  unfold Row
  rw [e]
  exact h
def q4 (q : St) : Mir.R4 := ⟨q.nx.getD 0 0, q.nx.getD 1 0, q.nx.getD 2 0, q.nx.getD 3 0⟩
theorem nx_row {w : World} {v : Value} {sts : List St} (h : Nx w v (sts.map St.r4)) : Row R4E w v (sts.map q4) := by
  have e : (sts.map q4).flatMap R4E.f = flat4 (sts.map St.r4) := by
    clear h
    induction sts with
    | nil => rfl
    | cons a xs ih => rw [List.map_cons, List.flatMap_cons, ih]; rfl
  unfold Row
  rw [e, List.length_map]
  unfold Nx at h
  rw [List.length_map] at h
  exact h

set_option maxHeartbeats 1000000 in
set_option maxRecDepth 100000 in
theorem allDifferX_any (v : Value) (sts : List St) (w : World) (hst : Sts w v sts) (h0 : 0 < sts.length) (hl : sts.length ≤ 200) {F : Nat} {res : List Nat × Nat} (hM : M2.refineM (sts.map q4) 200 F (bySaidM sts) = some res) :
    Calls Tryz.prog 41 #[v] w fun e w' => e = .returned (.bool ((res.2 : Int) == (sts.length : Int))) ∧ Below w.heap.size w w' := by
  have hsaid := bySaidX_any v sts w hst h0 hl
  have hnext := fun (wx : World) (hb : Below w.heap.size w wx) => nextStates_any v sts wx (hst.below hb (Nat.le_refl _)) h0 hl
  obtain ⟨g, cap, rfl, hg, hcap⟩ := hst.form h0
  obtain ⟨fin, hfin⟩ : ∃ f, f = (bySaidM sts).1 := ⟨_, rfl⟩
  obtain ⟨c, hc⟩ : ∃ f, f = (bySaidM sts).2 := ⟨_, rfl⟩
  have hM2 : M2.refineM (sts.map q4) 200 F (fin, c) = some res := by rw [hfin, hc]; exact hM
  rw [← hfin, ← hc] at hsaid
  have href := fun (vo vn : Value) (wx : World) (h1 : Row InE wx vo fin) (h2 : Row R4E wx vn (sts.map q4)) (h3 : fin.length = sts.length) (h4 : c ≤ sts.length) => refine_any wx vo vn fin c 200 (sts.map q4) h1 h2 (by omega) (by omega) (by rw [List.length_map]; exact h0) (by rw [List.length_map]; omega) (by rw [List.length_map]; exact h3) hM2
  obtain ⟨n, hn⟩ : ∃ n, n = sts.length := ⟨_, rfl⟩
  rw [← hn] at h0 hl hcap hsaid hnext href ⊢
  have HNEXT : Hid _ := hnext
  have HREF : Hid _ := href
  have HN : Hid ((sts.map St.r4).length = n) := by show (sts.map St.r4).length = n; rw [hn]; simp
  clear hn hst hnext href hM hM2 hfin hc
  go_enter Tryz.func41, Tryz.ntmps41
  go_wp2_with fail
  refine hsaid.mono ?_
  rintro e w1 ⟨u, rfl, hints, hfl, hcn, hb⟩
  obtain ⟨g6, cap6, rfl, -, -⟩ := hints.form (by rw [hfl]; exact h0)
  rw [hfl] at hints ⊢
  have HI : Hid (Ints w1 (.slice (some ⟨g6, 0, none⟩) n cap6) fin) := hints
  have hsz1 := hb.size
  clear hsaid hints
  go_wp2_with fail
  refine (HNEXT.out _ (hb.alloc hsz1 _)).mono ?_
  rintro e w2 ⟨vn, rfl, hnx, hb2⟩
  obtain ⟨g7, cap7, rfl, -, -⟩ := hnx.form (by rw [HN.out]; exact h0)
  rw [HN.out] at hnx ⊢
  have hblk : w2.heap[w1.heap.size]? = some (.cells #[.slice (some ⟨g6, 0, none⟩) n cap6, .int .i64 (c : Int)] 146 (0, 0)) := (hb2.block _ (by simp)).trans (heap_alloc_new w1 _)
  have hsz2 : w1.heap.size + 1 ≤ w2.heap.size := by have := hb2.size; simpa using this
  have hb3 : Below w.heap.size w w2 := (hb.alloc hsz1 _).trans (hb2.mono (by simp; omega))
  have hb4 : Below w1.heap.size w1 w2 := ((Below.refl _ _).alloc (Nat.le_refl _) _).trans (hb2.mono (by simp))
  have x0 := blk_cell hblk 0 _ rfl
  have x1 := blk_cell hblk 1 _ rfl
  simp only [List.getElem_toArray, List.getElem_cons_zero, List.getElem_cons_succ] at x0 x1
  have hcall := HREF.out (.slice (some ⟨g6, 0, none⟩) n cap6) (.slice (some ⟨g7, 0, none⟩) n cap7) w2 (ints_row (HI.out.below hb4 (Nat.le_refl _))) (nx_row hnx) hfl hcn
  clear hnx hblk hb2 hb4
  go_wp2_with fail
  refine hcall.mono ?_
  rintro e w3 ⟨m3, v3, rfl, hrow3⟩
  obtain ⟨a8, n8, c8, rfl⟩ := hrow3.any.elim fun a h => h.elim fun c h => (⟨a, _, c, h.1⟩ : ∃ a n c, v3 = .slice a n c)
  have hb6 : Below w.heap.size w w3 := hb3.trans (m3.below.mono hb3.size)
  have hsz3 := hb6.size
  clear hcall hrow3 x0 x1 m3
  go_wp2
  go_ret
  exact ⟨rfl, hb6.alloc hsz3 _⟩

/-- Whether states are sound: numbered, nothing held back without need, no two alike. -/
def SoundIs (sts : List St) (b : Bool) : Prop := (isNumB sts = false ∧ b = false) ∨ (isNumB sts = true ∧ Within sts ∧ (((∀ sets, Good sts sets → Fixed sts sets → sets.any oneB = true) ∧ b = false) ∨ ((∀ sets, Good sts sets → Fixed sts sets → sets.any oneB = false) ∧ ∃ F res, M2.refineM (sts.map q4) 200 F (bySaidM sts) = some res ∧ b = ((res.2 : Int) == (sts.length : Int)))))

set_option maxHeartbeats 1000000 in
theorem isSoundX_any (v : Value) (sts : List St) (w : World) (hst : Sts w v sts) (h0 : 0 < sts.length) (hl : sts.length ≤ 200) {b : Bool} (hS : SoundIs sts b) :
    Calls Tryz.prog 18 #[v] w fun e w' => e = .returned (.bool b) ∧ Below w.heap.size w w' := by
  have hnum := isNumbered_any v sts w hst h0 hl
  have hstb := fun (wx : World) (hb : Below w.heap.size w wx) => hst.below hb (Nat.le_refl _)
  rcases hS with ⟨hN, rfl⟩ | ⟨hN, hW, hcase⟩
  · rw [hN] at hnum
    clear hN hstb
    go_enter Tryz.func18, Tryz.ntmps18
    go_wp2_with fail
    refine hnum.mono ?_
    rintro e w1 ⟨rfl, hb⟩
    clear hnum
    go_wp2_with fail
    go_ret
    exact ⟨rfl, hb⟩
  · rw [hN] at hnum
    have HW : Hid (Within sts) := hW
    clear hN hW
    go_enter Tryz.func18, Tryz.ntmps18
    go_wp2_with fail
    refine hnum.mono ?_
    rintro e w1 ⟨rfl, hb⟩
    have hearly := isEarly_any v sts w1 (hstb w1 hb) h0 hl HW.out
    clear hnum
    go_wp2_with fail
    refine hearly.mono ?_
    rintro e w2 ⟨⟨sets, hgood, hfix, rfl⟩, hb2⟩
    have hb3 : Below w.heap.size w w2 := hb.trans (hb2.mono hb.size)
    clear hearly hb2
    rcases hcase with ⟨hall, rfl⟩ | ⟨hall, F, res, hM, rfl⟩
    · have hA := hall sets hgood hfix
      rw [hA]
      clear hA hall hgood hfix hstb
      go_wp2_with fail
      go_ret
      exact ⟨rfl, hb3⟩
    · have hA := hall sets hgood hfix
      rw [hA]
      have hdiff := allDifferX_any v sts w2 (hstb w2 hb3) h0 hl hM
      clear hA hall hgood hfix hstb hM
      go_wp2_with fail
      refine hdiff.mono ?_
      rintro e w3 ⟨rfl, hb4⟩
      clear hdiff
      go_wp2_with fail
      go_ret
      exact ⟨rfl, hb3.trans (hb4.mono hb3.size)⟩

/-- What Load gives: no machine, or one of these states. -/
def LoadIs (s : ByteArray) (r : Option (List St)) : Prop := (readM s s.size 0 [] = none ∧ r = none) ∨ (readM s s.size 0 [] = some [] ∧ r = none) ∨ ∃ sts, readM s s.size 0 [] = some sts ∧ 0 < sts.length ∧ ((SoundIs sts false ∧ r = none) ∨ (SoundIs sts true ∧ r = some sts))
def LPost (r : Option (List St)) (w : World) (e : Ending) (w' : World) : Prop := Below w.heap.size w w' ∧ match r with
  | none => e = .returned (.tuple #[.pointer none, .int .i64 7])
  | some sts => ∃ m v, e = .returned (.tuple #[.pointer (some ⟨m, 0, none⟩), .int .i64 0]) ∧ w'.heap[m]? = some (.cells #[v] 68 (0, 0)) ∧ Sts w' v sts

set_option maxHeartbeats 1000000 in
theorem loadX_any (s : ByteArray) (w : World) (hs : s.size ≤ 1048576) {r : Option (List St)} (hL : LoadIs s r) : Calls Tryz.prog 9 #[.string s] w fun e w' => LPost r w e w' := by
  have hread := readStates_any s w hs
  unfold ReadPost at hread
  rcases hL with ⟨hR, rfl⟩ | ⟨hR, rfl⟩ | ⟨sts, hR, h0, hcase⟩
  · rw [hR] at hread
    clear hR
    go_enter Tryz.func9, Tryz.ntmps9
    go_wp2_with fail
    refine hread.mono ?_
    rintro e w1 ⟨hb, rfl⟩
    clear hread
    go_wp2_with fail
    go_ret2
    exact ⟨hb, rfl⟩
  · rw [hR] at hread
    have hd : decide (0 < ([] : List St).length) = false := rfl
    simp only [hd] at hread
    clear hR hd
    go_enter Tryz.func9, Tryz.ntmps9
    go_wp2_with fail
    refine hread.mono ?_
    rintro e w1 ⟨hb, hl, v, rfl, hown⟩
    clear hread
    go_wp2_with fail
    go_ret2
    exact ⟨hb, rfl⟩
  · rw [hR] at hread
    simp only at hread
    have hd : decide (0 < sts.length) = true := decide_eq_true h0
    rw [hd] at hread
    clear hd hR
    go_enter Tryz.func9, Tryz.ntmps9
    go_wp2_with fail
    refine hread.mono ?_
    rintro e w1 ⟨hb, hl, v, rfl, hown⟩
    have hst : Sts w1 v sts := own_base hown (Nat.zero_le _)
    obtain ⟨g, cap, rfl, hg, hcap⟩ := hst.form h0
    have HST : Hid (Sts w1 (.slice (some ⟨g, 0, none⟩) sts.length cap) sts) := hst
    clear hread hown
    rcases hcase with ⟨hS, rfl⟩ | ⟨hS, rfl⟩
    · have hsound := isSoundX_any _ sts w1 hst h0 hl hS
      clear hst hS
      go_wp2_with fail
      refine hsound.mono ?_
      rintro e w2 ⟨rfl, hb2⟩
      have hb3 : Below w.heap.size w w2 := hb.trans (hb2.mono hb.size)
      clear hsound HST hb2
      go_wp2_with fail
      go_ret2
      exact ⟨hb3, rfl⟩
    · have hsound := isSoundX_any _ sts w1 hst h0 hl hS
      clear hst hS
      go_wp2_with fail
      refine hsound.mono ?_
      rintro e w2 ⟨rfl, hb2⟩
      have hb3 : Below w.heap.size w w2 := hb.trans (hb2.mono hb.size)
      have HST2 : Hid (Sts w2 (.slice (some ⟨g, 0, none⟩) sts.length cap) sts) := HST.out.below hb2 (Nat.le_refl _)
      have hsz := hb3.size
      clear hsound HST hb2
      go_wp2_with fail
      go_ret2
      exact ⟨hb3.alloc hsz _, _, _, rfl, heap_alloc_new w2 _, HST2.out.below ((Below.refl w2.heap.size w2).alloc (Nat.le_refl _) _) (Nat.le_refl _)⟩
end Go.Proofs.YtmbapmbpnnaanabGreat.Ld
