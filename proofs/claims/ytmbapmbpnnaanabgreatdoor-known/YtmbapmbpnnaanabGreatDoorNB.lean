import Derived.Test.YtmbapmbpnnaanabGreatDoorMZ
namespace Go.Proofs.YtmbapmbpnnaanabGreatDoor.M3
open Go.Proofs.YtmbapmbpnnaanabGreatDoor.M2
def onTo (np : Nat) (steps : List Stp) (on : List Int) : Option (List Int) := onGo on steps 10000 1 (List.replicate np (-1)) (List.replicate np 0)
end Go.Proofs.YtmbapmbpnnaanabGreatDoor.M3
namespace Go.Proofs.YtmbapmbpnnaanabGreatDoor
open Go.RowKit
attribute [local go_sem ↓] Go.wp_at_zero Go.wp_at_succ

theorem onGo_step {on : List Int} {steps : List M2.Stp} {f round : Nat} {ow R : List Int} {far : List Nat} (h : M2.onGo on steps (f + 1) round ow far = some R) : ∃ ow2 far2 gr, M2.onRound on round steps 0 ow far false = some (ow2, far2, gr) ∧ ((gr = true ∧ M2.onGo on steps f (round + 1) ow2 far2 = some R) ∨ (gr = false ∧ ow2 = R)) := by
  rw [M2.onGo] at h
  split at h
  · cases h
  · rename_i ow2 far2 gr hr
    refine ⟨ow2, far2, gr, hr, ?_⟩
    cases gr with
    | true => exact Or.inl ⟨rfl, by simpa using h⟩
    | false => exact Or.inr ⟨rfl, by simpa using h⟩
theorem onRound_step {on : List Int} {round : Nat} {steps : List M2.Stp} {i : Nat} {s : M2.Stp} {ow : List Int} {far : List Nat} {gr : Bool} {R : List Int × List Nat × Bool} (hs : steps[i]? = some s) (h : M2.onRound on round (steps.drop i) i ow far gr = some R) :
    ∃ o ft ff, on[s.tt]? = some o ∧ far[s.tt]? = some ft ∧ far[s.fr]? = some ff ∧ ((ff = 0 ∧ ((round = 1 ∧ M2.silent s = false ∧ 0 ≤ o) ∨ (1 < round ∧ ft = round - 1)) ∧ M2.onRound on round (steps.drop (i + 1)) (i + 1) (ow.set s.fr (i : Int)) (far.set s.fr round) true = some R) ∨ (¬ (ff = 0 ∧ ((round = 1 ∧ M2.silent s = false ∧ 0 ≤ o) ∨ (1 < round ∧ ft = round - 1))) ∧ M2.onRound on round (steps.drop (i + 1)) (i + 1) ow far gr = some R)) := by
  obtain ⟨h1, h2⟩ := List.getElem?_eq_some_iff.1 hs
  rw [List.drop_eq_getElem_cons h1, h2, M2.onRound] at h
  split at h
  · rename_i o ft ff ho hft hff
    refine ⟨o, ft, ff, ho, hft, hff, ?_⟩
    dsimp only at h
    split at h
    · rename_i hc
      refine Or.inl ?_
      simp only [Bool.and_eq_true, Bool.or_eq_true, decide_eq_true_eq, Bool.not_eq_true'] at hc
      refine ⟨hc.1, ?_, h⟩
      rcases hc.2 with h3 | h3
      · exact Or.inl ⟨h3.1.1, h3.1.2, h3.2⟩
      · exact Or.inr h3
    · rename_i hc
      refine Or.inr ⟨fun hn => hc ?_, h⟩
      simp only [Bool.and_eq_true, Bool.or_eq_true, decide_eq_true_eq, Bool.not_eq_true']
      refine ⟨hn.1, ?_⟩
      rcases hn.2 with h3 | h3
      · exact Or.inl ⟨⟨h3.1, h3.2.1⟩, h3.2.2⟩
      · exact Or.inr h3
  · cases h
theorem onRound_len {on : List Int} {round : Nat} : ∀ (steps : List M2.Stp) (i : Nat) (ow : List Int) (far : List Nat) (gr : Bool) (R : List Int × List Nat × Bool), M2.onRound on round steps i ow far gr = some R → R.1.length = ow.length ∧ R.2.1.length = far.length
  | [], i, ow, far, gr, R, h => by rw [M2.onRound] at h; cases h; exact ⟨rfl, rfl⟩
  | s :: ss, i, ow, far, gr, R, h => by
    rw [M2.onRound] at h
    split at h
    · dsimp only at h
      split at h
      · have := onRound_len ss _ _ _ _ _ h; simpa using this
      · exact onRound_len ss _ _ _ _ _ h
    · cases h

/-- The two lists that are reckoned, in blocks of their own. -/
structure OT (w : World) (ow : List Int) (far : List Nat) (np : Nat) (wr : World) : Prop where
  on : Row IzE wr (.slice (some ⟨w.heap.size, 0, none⟩) np np) ow
  fa : Row InE wr (.slice (some ⟨w.heap.size + 1, 0, none⟩) np np) far
  md : Mod No w wr
theorem OT.no {w : World} {ow : List Int} {far : List Nat} {np : Nat} {wr wr' : World} (h : OT w ow far np wr) (hm : Mod No wr wr') : OT w ow far np wr' := ⟨h.on.no hm, h.fa.no hm, h.md.no hm⟩
theorem OT.putO {w : World} {ow : List Int} {far : List Nat} {np : Nat} {wr : World} (h : OT w ow far np wr) {i : Nat} {x : Int} (y : Int) (hx : ow[i]? = some x) : OT w (ow.set i y) far np (wr.setCell ⟨w.heap.size, i, none⟩ (.int .i64 y)) :=
  ⟨IzE.put h.on y hx, h.fa.other (a := ⟨w.heap.size, i, none⟩) (by simp [Value.ownBlock]) _, h.md.setCell (a := ⟨w.heap.size, i, none⟩) (fun e => absurd e (by simp)) _⟩
theorem OT.putF {w : World} {ow : List Int} {far : List Nat} {np : Nat} {wr : World} (h : OT w ow far np wr) {i x : Nat} (y : Nat) (hx : far[i]? = some x) : OT w ow (far.set i y) np (wr.setCell ⟨w.heap.size + 1, i, none⟩ (.int .i64 (y : Int))) :=
  ⟨h.on.other (a := ⟨w.heap.size + 1, i, none⟩) (by simp [Value.ownBlock]) _, InE.put h.fa y hx, h.md.setCell (a := ⟨w.heap.size + 1, i, none⟩) (fun e => absurd e (by simp)) _⟩
theorem ints_flat (l : List Nat) : l.flatMap InE.f = (l.map (fun (x : Nat) => (x : Int))).flatMap IzE.f := by
  induction l with
  | nil => rfl
  | cons a l ih => rw [List.flatMap_cons, List.map_cons, List.flatMap_cons, ih]; rfl
theorem InE.toIz {w : World} {v : Value} {l : List Nat} (h : Row InE w v l) : Row IzE w v (l.map fun (x : Nat) => (x : Int)) := by
  have h2 : w.ownsRow 0 3 1 v l.length (l.flatMap InE.f) := h
  show w.ownsRow 0 3 1 v (l.map _).length _
  rw [List.length_map, ← ints_flat]
  exact h2
theorem set_fill (np i : Nat) (hi : i < np) : (List.replicate i (-1 : Int) ++ List.replicate (np - i) 0).set i (-1) = List.replicate (i + 1) (-1) ++ List.replicate (np - (i + 1)) 0 := by
  rw [List.set_append_right _ _ (by simp), List.length_replicate, Nat.sub_self, show np - i = (np - (i + 1)) + 1 by omega, List.replicate_succ, List.set_cons_zero, List.replicate_succ', List.append_assoc]
  rfl

set_option maxHeartbeats 1600000 in
set_option maxRecDepth 100000 in
theorem onwardTo_any (w : World) (v : M2.View) (base G : Nat) (ka kw kh kd vp c5 vn vs c8 vo : Value) (g : M3.Gr) (h : NG v base G ka kw kh kd vp c5 vn vs c8 vo g.pairs g.nums g.steps w) (on : List Int) (hon : Row IzE w vo on) (hol : on.length = g.pairs.length) (hnp : g.pairs.length ≤ 100000) (hns : g.steps.length ≤ 100000) (hov : ∀ x ∈ on, -1 ≤ x ∧ x ≤ 1000000) {R : List Int} (hM : M3.onTo g.pairs.length g.steps on = some R) :
    Calls Tryz.prog 131 #[.pointer (some ⟨G, 0, none⟩)] w fun e w' => Mod No w w' ∧ ∃ u, e = .returned u ∧ Row IzE w' u R ∧ (∀ q, u.ownBlock = some q → w.heap.size ≤ q) := by
  obtain ⟨np, hnp'⟩ : ∃ np, np = g.pairs.length := ⟨_, rfl⟩
  obtain ⟨ns, hns'⟩ : ∃ ns, ns = g.steps.length := ⟨_, rfl⟩
  obtain ⟨pA, pC, evp, -, -⟩ := h.pr.open hnp'.symm
  obtain ⟨sA, sC, evs, -, -⟩ := h.sp.open hns'.symm
  obtain ⟨oA, oC, evo, -, -⟩ := hon.open (n := np) (by omega)
  rw [← hnp'] at hM hnp hol
  rw [← hns'] at hns
  have HB : Hid (Blk w G [ka, kw, kh, kd, vp, c5, vn, vs, c8, vo] 172 ∧ Row SpE w vs g.steps ∧ Row IzE w vo on) := ⟨h.blk, h.sp, hon⟩
  have HE : Hid (vp = .slice pA np pC ∧ vs = .slice sA ns sC ∧ vo = .slice oA np oC) := ⟨evp, evs, evo⟩
  have HL : Hid (ns = g.steps.length ∧ on.length = np) := ⟨hns', hol⟩
  have HM : Hid (M2.onGo on g.steps 10000 1 (List.replicate np (-1)) (List.replicate np 0) = some R) := hM
  have HOV : Hid (∀ x ∈ on, -1 ≤ x ∧ x ≤ 1000000) := hov
  have hmk := make_ints np (by omega)
  have k4 := h.blk.cell 4 rfl
  have K4 := h.blk.cellA 4 rfl
  rw [evp] at k4 K4
  have hGne : ¬ G = w.heap.size := by have := h.blk.lt; omega
  clear h hon hM hol hov evp evs evo hnp' hns'
  go_enter Tryz.func131, Tryz.ntmps131
  go_wp2_with fail
  clear k4 K4 hmk
  have HI0 : Hid (∀ A B, A = Obj.cells (Array.replicate np (.int .i64 0)) 3 → B = Obj.cells (Array.replicate np (.int .i64 0)) 3 → OT w (List.replicate 0 (-1) ++ List.replicate (np - 0) 0) (List.replicate np 0) np ((w.alloc A).alloc B)) := by
    intro A B hA hB
    subst hA hB
    have e : ((List.replicate np (.int .i64 0)).toArray : Array Value) = Array.replicate np (.int .i64 0) := by simp
    have b0 : Blk ((w.alloc (Obj.cells (Array.replicate np (.int .i64 0)) 3)).alloc (Obj.cells (Array.replicate np (.int .i64 0)) 3)) w.heap.size ((List.replicate np (0 : Nat)).flatMap InE.f) 3 := by rw [ints_zero]; unfold Blk; rw [e]; exact new2_0 w _ _
    have b1 : Blk ((w.alloc (Obj.cells (Array.replicate np (.int .i64 0)) 3)).alloc (Obj.cells (Array.replicate np (.int .i64 0)) 3)) (w.heap.size + 1) ((List.replicate np (0 : Nat)).flatMap InE.f) 3 := by rw [ints_zero]; unfold Blk; rw [e]; exact new2_1 w _ _
    have r0 := Row.of_block (E := InE) b0 (by simp; unfold maxLen; omega)
    have r1 := Row.of_block (E := InE) b1 (by simp; unfold maxLen; omega)
    rw [List.length_replicate] at r0 r1
    refine ⟨?_, r1, ((Mod.refl _ _).alloc _).alloc _⟩
    have := InE.toIz r0
    simpa using this
  have HI1 := HI0.out _ _ rfl rfl
  clear HI0
  generalize (w.alloc (Obj.cells (Array.replicate np (.int .i64 0)) 3)).alloc (Obj.cells (Array.replicate np (.int .i64 0)) 3) = W0 at HI1 ⊢
  have HI1 : Hid (OT w (List.replicate 0 (-1) ++ List.replicate (np - 0) 0) (List.replicate np 0) np W0) := HI1
  go_loopg [26] np (fun gh v26 wr => ∃ i : Nat, i ≤ np ∧ gh = np - i ∧ v26 = .int .i64 (i : Int) ∧ OT w (List.replicate i (-1) ++ List.replicate (np - i) 0) (List.replicate np 0) np wr)
  case atStart => exact ⟨0, by omega, by omega, rfl, HI1.out⟩
  case round =>
    clear HI1
    obtain ⟨i, hin, hgk, rfl, hI⟩ := hrel
    have HI : Hid (OT w (List.replicate i (-1) ++ List.replicate (np - i) 0) (List.replicate np 0) np wr) := hI
    by_cases hlt : i < np
    · have hx : (List.replicate i (-1 : Int) ++ List.replicate (np - i) 0)[i]? = some 0 := by rw [List.getElem?_append_right (by simp), List.length_replicate, Nat.sub_self, List.getElem?_replicate, if_pos (by omega)]
      have cx := IzE.cell hI.on hx
      have fx := hI.on.free i
      have HI2 : Hid (OT w (List.replicate (i + 1) (-1) ++ List.replicate (np - (i + 1)) 0) (List.replicate np 0) np (wr.setCell ⟨w.heap.size, i, none⟩ (.int .i64 (-1)))) := by
        have h := hI.putO (-1) hx
        rw [set_fill np i hlt] at h
        exact h
      have hii : (i : Int) < (np : Int) := by omega
      clear hI hx
      go_wp2
      go_roundg (np - (i + 1))
      case measure => omega
      case rel => exact ⟨i + 1, by omega, rfl, by go_num, HI2.out⟩
    · obtain rfl : i = np := by omega
      have HI2 : Hid (OT w (List.replicate i (-1)) (List.replicate i 0) i wr) := by have h := hI; simp at h; exact h
      have hii : ¬ (i : Int) < (i : Int) := by omega
      clear hI HI hgk hin hlt
      go_wp2_with fail
      go_loopg [6, 7] 10001 (fun gh v6 v7 wr => ∃ (b : Bool) (round : Nat) (ow : List Int) (far : List Nat), v6 = .bool b ∧ v7 = .int .i64 (round : Int) ∧ 1 ≤ round ∧ round + gh ≤ 10002 ∧ ow.length = i ∧ far.length = i ∧ (∀ u ∈ far, u ≤ 10002) ∧ OT w ow far i wr ∧ ((b = true ∧ ∃ f, gh = f + 1 ∧ M2.onGo on g.steps f round ow far = some R) ∨ (b = false ∧ ow = R)))
      case atStart => exact ⟨true, 1, _, _, rfl, rfl, by omega, by omega, by simp, by simp, fun u hu => (by rw [List.eq_of_mem_replicate hu]; omega), HI2.out, Or.inl ⟨rfl, 10000, rfl, HM.out⟩⟩
      case round =>
        clear HI2 HM
        obtain ⟨b, round, ow, far, rfl, rfl, hr1, hrg, hol, hfl, hfv, hI, hb⟩ := hrel
        have HI : Hid (OT w ow far i wr ∧ ow.length = i ∧ far.length = i ∧ ∀ u ∈ far, u ≤ 10002) := ⟨hI, hol, hfl, hfv⟩
        rcases hb with ⟨rfl, f, hgf, hall⟩ | ⟨rfl, rfl⟩
        · match f, hgf, hall with
          | 0, hgf, hall => cases hall
          | f + 1, hgf, hall =>
            obtain ⟨ow2, far2, gr2, hR, hend⟩ := onGo_step hall
            have HR : Hid (M2.onRound on round (g.steps.drop 0) 0 ow far false = some (ow2, far2, gr2)) := hR
            have HEND : Hid ((gr2 = true ∧ M2.onGo on g.steps f (round + 1) ow2 far2 = some R) ∨ (gr2 = false ∧ ow2 = R)) := hend
            have k7 := (HB.out.1.mod hI.md (fun x => x)).cell 7 rfl
            rw [HE.out.2.1] at k7
            clear hI hall hR hend hol hfl hfv
            go_wp2_with fail
            clear k7
            go_loopg [6, 41] ns (fun gh v6 v41 wr => ∃ (j : Nat) (gr : Bool) (ow : List Int) (far : List Nat), j ≤ ns ∧ gh = ns - j ∧ v41 = .int .i64 (j : Int) ∧ v6 = .bool gr ∧ M2.onRound on round (g.steps.drop j) j ow far gr = some (ow2, far2, gr2) ∧ (OT w ow far i wr ∧ ow.length = i ∧ far.length = i ∧ ∀ u ∈ far, u ≤ 10002))
            case atStart => exact ⟨0, false, ow, far, by omega, by omega, rfl, rfl, HR.out, HI.out⟩
            case round =>
              clear HI HR
              obtain ⟨j, gr, ow, far, hjn, hgj, rfl, rfl, hgo, hI⟩ := hrel
              have HI : Hid (OT w ow far i wr ∧ ow.length = i ∧ far.length = i ∧ ∀ u ∈ far, u ≤ 10002) := hI
              by_cases hlj : j < ns
              · obtain ⟨s, hs⟩ : ∃ s, g.steps[j]? = some s := ⟨g.steps[j]'(by have := HL.out.1; omega), List.getElem?_eq_getElem _⟩
                obtain ⟨o, ft, ff, ho, hft, hff, hcase⟩ := onRound_step hs hgo
                have hti : s.tt < i := by have := (List.getElem?_eq_some_iff.1 hft).1; omega
                have hfi : s.fr < i := by have := (List.getElem?_eq_some_iff.1 hff).1; omega
                have hob := HOV.out o (List.mem_of_getElem? ho)
                have hftb := hI.2.2.2 ft (List.mem_of_getElem? hft)
                have hffb := hI.2.2.2 ff (List.mem_of_getElem? hff)
                have hrs := HB.out.2.1.no hI.1.md
                rw [HE.out.2.1] at hrs
                obtain ⟨gS, hgS⟩ : ∃ q, sA = some ⟨q, 0, none⟩ := by
                  obtain ⟨g2, c2, h2, -⟩ := HB.out.2.1.form (by have := HL.out.1; omega)
                  rw [HE.out.2.1] at h2
                  injection h2 with h2 _
                  exact ⟨g2, h2⟩
                obtain ⟨gO, hgO⟩ : ∃ q, oA = some ⟨q, 0, none⟩ := by
                  obtain ⟨g2, c2, h2, -⟩ := HB.out.2.2.form (by have := HL.out.2; omega)
                  rw [HE.out.2.2] at h2
                  injection h2 with h2 _
                  exact ⟨g2, h2⟩
                subst hgS hgO
                have s0 : wr.cell? ⟨gS, j * 5, none⟩ = some (.int .i64 (s.fr : Int)) := hrs.cell j 0 hs rfl
                have s1 : wr.cell? ⟨gS, j * 5 + 1, none⟩ = some (.int .i64 (s.tt : Int)) := hrs.cell j 1 hs rfl
                have s2 : wr.cell? ⟨gS, j * 5 + 2, none⟩ = some (.int .i64 (s.l : Int)) := hrs.cell j 2 hs rfl
                have s3 : wr.cell? ⟨gS, j * 5 + 3, none⟩ = some (.string ⟨s.s0.toArray⟩) := hrs.cell j 3 hs rfl
                have s4 : wr.cell? ⟨gS, j * 5 + 4, none⟩ = some (.string ⟨s.s1.toArray⟩) := hrs.cell j 4 hs rfl
                have H96 : Hid (∀ wx, Calls Tryz.prog 147 #[.agg #[.int .i64 (s.fr : Int), .int .i64 (s.tt : Int), .int .i64 (s.l : Int), .string ⟨s.s0.toArray⟩, .string ⟨s.s1.toArray⟩]] wx fun e w' => e = .returned (.bool (M2.silent s)) ∧ Mod No wx w') := fun wx => silent_any wx s
                generalize (⟨s.s0.toArray⟩ : ByteArray) = A0 at s3 H96
                generalize (⟨s.s1.toArray⟩ : ByteArray) = A1 at s4 H96
                have HC : Hid ((ff = 0 ∧ ((round = 1 ∧ M2.silent s = false ∧ 0 ≤ o) ∨ (1 < round ∧ ft = round - 1)) ∧ M2.onRound on round (g.steps.drop (j + 1)) (j + 1) (ow.set s.fr (j : Int)) (far.set s.fr round) true = some (ow2, far2, gr2)) ∨ (¬ (ff = 0 ∧ ((round = 1 ∧ M2.silent s = false ∧ 0 ≤ o) ∨ (1 < round ∧ ft = round - 1))) ∧ M2.onRound on round (g.steps.drop (j + 1)) (j + 1) ow far gr = some (ow2, far2, gr2))) := hcase
                have HX : Hid (on[s.tt]? = some o ∧ far[s.tt]? = some ft ∧ far[s.fr]? = some ff) := ⟨ho, hft, hff⟩
                generalize M2.silent s = sil at HC H96
                have hji : (j : Int) < (ns : Int) := by omega
                obtain ⟨FR, hFR⟩ : ∃ FR, FR = s.fr := ⟨_, rfl⟩
                obtain ⟨TT, hTT⟩ : ∃ TT, TT = s.tt := ⟨_, rfl⟩
                rw [← hFR] at s0 H96 HC HX hfi
                rw [← hTT] at s1 H96 HX hti
                have HP : Hid (∀ o, o = Obj.cells #[.int .i64 (FR : Int), .int .i64 (TT : Int), .int .i64 (s.l : Int), .string A0, .string A1] 229 → (OT w ow far i (wr.alloc o) ∧ ow.length = i ∧ far.length = i ∧ ∀ u ∈ far, u ≤ 10002) ∧ Blk (wr.alloc o) wr.heap.size [.int .i64 (FR : Int), .int .i64 (TT : Int), .int .i64 (s.l : Int), .string A0, .string A1] 229) := fun o ho => ⟨⟨hI.1.no ((Mod.refl _ _).alloc _), hI.2⟩, by subst ho; exact heap_alloc_new wr _⟩
                clear hI hrs hs hgo ho hft hff hcase hFR hTT HI
                go_wp2_with fail
                have HP := HP.out _ rfl
                generalize wr.alloc (Obj.cells #[.int .i64 (FR : Int), .int .i64 (TT : Int), .int .i64 (s.l : Int), .string A0, .string A1] 229) = W2 at HP ⊢
                generalize wr.heap.size = P at HP ⊢
                have HP : Hid ((OT w ow far i W2 ∧ ow.length = i ∧ far.length = i ∧ ∀ u ∈ far, u ≤ 10002) ∧ Blk W2 P [.int .i64 (FR : Int), .int .i64 (TT : Int), .int .i64 (s.l : Int), .string A0, .string A1] 229) := HP
                clear s0 s1 s2 s3 s4
                have htt : (TT : Int) < (i : Int) := by omega
                have hff2 : (FR : Int) < (i : Int) := by omega
                go_cut [10, 41] from 41 to 98 (fun s10 s41 wc => s41 = .int .i64 (j : Int) ∧ s10 = .bool (decide (round = 1) && (!sil) && decide (0 ≤ o)) ∧ Mod No W2 wc)
                case first =>
                  have hne : Nonempty (After W2) := ⟨⟨W2, Mod.refl _ _⟩⟩
                  have p0 : ∀ x : After W2, x.val.cell? ⟨P, 0, none⟩ = some (.int .i64 (FR : Int)) := fun x => (HP.out.2.mod x.property (fun y => y)).cell 0 rfl
                  have p1 : ∀ x : After W2, x.val.cell? ⟨P, 1, none⟩ = some (.int .i64 (TT : Int)) := fun x => (HP.out.2.mod x.property (fun y => y)).cell 1 rfl
                  have p2 : ∀ x : After W2, x.val.cell? ⟨P, 2, none⟩ = some (.int .i64 (s.l : Int)) := fun x => (HP.out.2.mod x.property (fun y => y)).cell 2 rfl
                  have p3 : ∀ x : After W2, x.val.cell? ⟨P, 3, none⟩ = some (.string A0) := fun x => (HP.out.2.mod x.property (fun y => y)).cell 3 rfl
                  have p4 : ∀ x : After W2, x.val.cell? ⟨P, 4, none⟩ = some (.string A1) := fun x => (HP.out.2.mod x.property (fun y => y)).cell 4 rfl
                  have g9 : ∀ x : After W2, x.val.cell? ⟨G, 9, none⟩ = some (.slice (some ⟨gO, 0, none⟩) i oC) := fun x => by
                    have h := ((HB.out.1.mod HP.out.1.1.md (fun y => y)).mod x.property (fun y => y)).cell 9 rfl
                    rw [HE.out.2.2] at h; exact h
                  have co : ∀ x : After W2, x.val.cell? ⟨gO, TT, none⟩ = some (.int .i64 o) := fun x => by
                    have h := (HB.out.2.2.no HP.out.1.1.md).no x.property
                    rw [HE.out.2.2] at h
                    exact IzE.cell h HX.out.1
                  by_cases hr : round = 1
                  · have hrb : ((round : Int) == 1) = true := by rw [hr]; rfl
                    have HRR : Hid (round = 1) := hr
                    clear hr
                    cases sil with
                    | true =>
                      refine wp_region_calm (by kernel_rfl) (by kernel_rfl) ?_
                      repeat (go_big_quiet_step (exact Calls.calm (H96.out _)))
                      refine wpQuiet_nil ?_
                      rintro _ ⟨X, rfl⟩
                      go_wp2_with fail
                      go_meet
                      exact ⟨rfl, by simp, X.property⟩
                    | false =>
                      refine wp_region_calm (by kernel_rfl) (by kernel_rfl) ?_
                      repeat (go_big_quiet_step (exact Calls.calm (H96.out _)))
                      refine wpQuiet_nil ?_
                      rintro _ ⟨X, rfl⟩
                      go_wp2_with fail
                      go_meet
                      exact ⟨rfl, by simp [HRR.out], X.property⟩
                  · have hrb : ((round : Int) == 1) = false := by rw [beq_eq_false_iff_ne]; omega
                    refine wp_region_calm (by kernel_rfl) (by kernel_rfl) ?_
                    repeat (go_big_quiet_step (exact Calls.calm (H96.out _)))
                    refine wpQuiet_nil ?_
                    rintro _ ⟨X, rfl⟩
                    go_wp2_with fail
                    go_meet
                    exact ⟨rfl, by simp [hr], X.property⟩
                case rest =>
                  obtain ⟨rfl, rfl, mc⟩ := hcut
                  have HP2 : Hid ((OT w ow far i wc ∧ ow.length = i ∧ far.length = i ∧ ∀ u ∈ far, u ≤ 10002) ∧ Blk wc P [.int .i64 (FR : Int), .int .i64 (TT : Int), .int .i64 (s.l : Int), .string A0, .string A1] 229) := ⟨⟨HP.out.1.1.no mc, HP.out.1.2⟩, HP.out.2.mod mc (fun x => x)⟩
                  obtain ⟨T, hT⟩ : ∃ T, T = (decide (round = 1) && (!sil) && decide (0 ≤ o)) := ⟨_, rfl⟩
                  rw [← hT]
                  have HTT : Hid (T = true ↔ (round = 1 ∧ sil = false ∧ 0 ≤ o)) := by
                    show T = true ↔ (round = 1 ∧ sil = false ∧ 0 ≤ o)
                    rw [hT]
                    simp [and_assoc]
                  have p0 := HP2.out.2.cell 0 rfl
                  have p1 := HP2.out.2.cell 1 rfl
                  have cT := InE.cell HP2.out.1.1.fa HX.out.2.1
                  have cF := InE.cell HP2.out.1.1.fa HX.out.2.2
                  have fF := HP2.out.1.1.fa.free FR
                  obtain ⟨ox, hox⟩ : ∃ ox, ow[FR]? = some ox := ⟨ow[FR]'(by rw [HP2.out.1.2.1]; exact hfi), List.getElem?_eq_getElem _⟩
                  have HOX : Hid (ow[FR]? = some ox) := hox
                  have hF2 := HP2.out.1.1.putF round HX.out.2.2
                  have cO := IzE.cell hF2.on hox
                  have fO := hF2.on.free FR
                  have HSET : Hid (OT w (ow.set FR (j : Int)) (far.set FR round) i ((wc.setCell ⟨w.heap.size + 1, FR, none⟩ (.int .i64 (round : Int))).setCell ⟨w.heap.size, FR, none⟩ (.int .i64 (j : Int)))) := hF2.putO (j : Int) hox
                  have HFV : Hid (∀ u ∈ far.set FR round, u ≤ 10002) := fun u hu => by
                    rcases List.mem_or_eq_of_mem_set hu with h | h
                    · exact HP2.out.1.2.2.2 u h
                    · omega
                  have p0' : (wc.setCell ⟨w.heap.size + 1, FR, none⟩ (.int .i64 (round : Int))).cell? ⟨P, 0, none⟩ = some (.int .i64 (FR : Int)) := (HP2.out.2.other (a := ⟨w.heap.size + 1, FR, none⟩) (fun e => HP2.out.2.apart HP2.out.1.1.fa (by decide) (by rw [e]; rfl)) _).cell 0 rfl
                  clear hT mc HP H96 hF2 hox hob
                  have hr0 : (1 : Int) ≤ (round : Int) := by omega
                  have hrr : round ≤ 10002 := by omega
                  rcases (show (¬ 1 < round) ∨ (1 < round ∧ ft = round - 1) ∨ (1 < round ∧ ft ≠ round - 1) by omega) with hnb | hnb | hnb
                  · have n1 : ¬ (1 : Int) < (round : Int) := by omega
                    rcases (show ff = 0 ∨ ff ≠ 0 by omega) with hfb | hfb
                    · have f1 : ((ff : Int) == 0) = true := by rw [beq_iff_eq]; omega
                      cases T with
                      | true =>
                        have HSETQ : Hid (M2.onRound on round (g.steps.drop (j + 1)) (j + 1) (ow.set FR (j : Int)) (far.set FR round) true = some (ow2, far2, gr2)) := by
                          rcases HC.out with h | h
                          · exact h.2.2
                          · exact absurd ⟨hfb, Or.inl (HTT.out.1 rfl)⟩ h.1
                        clear hnb hfb
                        have HN : Hid (M2.onRound on round (g.steps.drop (j + 1)) (j + 1) (ow.set FR (j : Int)) (far.set FR round) true = some (ow2, far2, gr2)) := HSETQ.out
                        go_wp2
                        go_roundg (ns - (j + 1))
                        case measure => omega
                        case rel => exact ⟨j + 1, true, _, _, by omega, rfl, by go_num, rfl, HN.out, HSET.out, by rw [List.length_set]; exact HP2.out.1.2.1, by rw [List.length_set]; exact HP2.out.1.2.2.1, HFV.out⟩
                      | false =>
                        have HSETQ : Hid (M2.onRound on round (g.steps.drop (j + 1)) (j + 1) ow far gr = some (ow2, far2, gr2)) := by
                          rcases HC.out with h | h
                          · rcases h.2.1 with h3 | h3
                            · exact absurd (HTT.out.2 h3) (by simp)
                            · omega
                          · exact h.2
                        clear hnb hfb
                        have HN : Hid (M2.onRound on round (g.steps.drop (j + 1)) (j + 1) ow far gr = some (ow2, far2, gr2)) := HSETQ.out
                        go_wp2
                        go_roundg (ns - (j + 1))
                        case measure => omega
                        case rel => exact ⟨j + 1, gr, _, _, by omega, rfl, by go_num, rfl, HN.out, HP2.out.1⟩
                    · have f1 : ((ff : Int) == 0) = false := by rw [beq_eq_false_iff_ne]; omega
                      cases T with
                      | true =>
                        have HSETQ : Hid (M2.onRound on round (g.steps.drop (j + 1)) (j + 1) ow far gr = some (ow2, far2, gr2)) := by
                          rcases HC.out with h | h
                          · exact absurd h.1 hfb
                          · exact h.2
                        clear hnb hfb
                        have HN : Hid (M2.onRound on round (g.steps.drop (j + 1)) (j + 1) ow far gr = some (ow2, far2, gr2)) := HSETQ.out
                        go_wp2
                        go_roundg (ns - (j + 1))
                        case measure => omega
                        case rel => exact ⟨j + 1, gr, _, _, by omega, rfl, by go_num, rfl, HN.out, HP2.out.1⟩
                      | false =>
                        have HSETQ : Hid (M2.onRound on round (g.steps.drop (j + 1)) (j + 1) ow far gr = some (ow2, far2, gr2)) := by
                          rcases HC.out with h | h
                          · exact absurd h.1 hfb
                          · exact h.2
                        clear hnb hfb
                        have HN : Hid (M2.onRound on round (g.steps.drop (j + 1)) (j + 1) ow far gr = some (ow2, far2, gr2)) := HSETQ.out
                        go_wp2
                        go_roundg (ns - (j + 1))
                        case measure => omega
                        case rel => exact ⟨j + 1, gr, _, _, by omega, rfl, by go_num, rfl, HN.out, HP2.out.1⟩
                  · have n1 : (1 : Int) < (round : Int) := by omega
                    have n2 : ((ft : Int) == (round : Int) - 1) = true := by rw [beq_iff_eq]; omega
                    rcases (show ff = 0 ∨ ff ≠ 0 by omega) with hfb | hfb
                    · have f1 : ((ff : Int) == 0) = true := by rw [beq_iff_eq]; omega
                      cases T with
                      | true =>
                        have HSETQ : Hid (M2.onRound on round (g.steps.drop (j + 1)) (j + 1) (ow.set FR (j : Int)) (far.set FR round) true = some (ow2, far2, gr2)) := by
                          rcases HC.out with h | h
                          · exact h.2.2
                          · exact absurd ⟨hfb, Or.inl (HTT.out.1 rfl)⟩ h.1
                        clear hnb hfb
                        have HN : Hid (M2.onRound on round (g.steps.drop (j + 1)) (j + 1) (ow.set FR (j : Int)) (far.set FR round) true = some (ow2, far2, gr2)) := HSETQ.out
                        go_wp2
                        go_roundg (ns - (j + 1))
                        case measure => omega
                        case rel => exact ⟨j + 1, true, _, _, by omega, rfl, by go_num, rfl, HN.out, HSET.out, by rw [List.length_set]; exact HP2.out.1.2.1, by rw [List.length_set]; exact HP2.out.1.2.2.1, HFV.out⟩
                      | false =>
                        have HSETQ : Hid (M2.onRound on round (g.steps.drop (j + 1)) (j + 1) (ow.set FR (j : Int)) (far.set FR round) true = some (ow2, far2, gr2)) := by
                          rcases HC.out with h | h
                          · exact h.2.2
                          · exact absurd ⟨hfb, Or.inr hnb⟩ h.1
                        clear hnb hfb
                        have HN : Hid (M2.onRound on round (g.steps.drop (j + 1)) (j + 1) (ow.set FR (j : Int)) (far.set FR round) true = some (ow2, far2, gr2)) := HSETQ.out
                        go_wp2
                        go_roundg (ns - (j + 1))
                        case measure => omega
                        case rel => exact ⟨j + 1, true, _, _, by omega, rfl, by go_num, rfl, HN.out, HSET.out, by rw [List.length_set]; exact HP2.out.1.2.1, by rw [List.length_set]; exact HP2.out.1.2.2.1, HFV.out⟩
                    · have f1 : ((ff : Int) == 0) = false := by rw [beq_eq_false_iff_ne]; omega
                      cases T with
                      | true =>
                        have HSETQ : Hid (M2.onRound on round (g.steps.drop (j + 1)) (j + 1) ow far gr = some (ow2, far2, gr2)) := by
                          rcases HC.out with h | h
                          · exact absurd h.1 hfb
                          · exact h.2
                        clear hnb hfb
                        have HN : Hid (M2.onRound on round (g.steps.drop (j + 1)) (j + 1) ow far gr = some (ow2, far2, gr2)) := HSETQ.out
                        go_wp2
                        go_roundg (ns - (j + 1))
                        case measure => omega
                        case rel => exact ⟨j + 1, gr, _, _, by omega, rfl, by go_num, rfl, HN.out, HP2.out.1⟩
                      | false =>
                        have HSETQ : Hid (M2.onRound on round (g.steps.drop (j + 1)) (j + 1) ow far gr = some (ow2, far2, gr2)) := by
                          rcases HC.out with h | h
                          · exact absurd h.1 hfb
                          · exact h.2
                        clear hnb hfb
                        have HN : Hid (M2.onRound on round (g.steps.drop (j + 1)) (j + 1) ow far gr = some (ow2, far2, gr2)) := HSETQ.out
                        go_wp2
                        go_roundg (ns - (j + 1))
                        case measure => omega
                        case rel => exact ⟨j + 1, gr, _, _, by omega, rfl, by go_num, rfl, HN.out, HP2.out.1⟩
                  · have n1 : (1 : Int) < (round : Int) := by omega
                    have n2 : ((ft : Int) == (round : Int) - 1) = false := by rw [beq_eq_false_iff_ne]; omega
                    rcases (show ff = 0 ∨ ff ≠ 0 by omega) with hfb | hfb
                    · have f1 : ((ff : Int) == 0) = true := by rw [beq_iff_eq]; omega
                      cases T with
                      | true =>
                        have HSETQ : Hid (M2.onRound on round (g.steps.drop (j + 1)) (j + 1) (ow.set FR (j : Int)) (far.set FR round) true = some (ow2, far2, gr2)) := by
                          rcases HC.out with h | h
                          · exact h.2.2
                          · exact absurd ⟨hfb, Or.inl (HTT.out.1 rfl)⟩ h.1
                        clear hnb hfb
                        have HN : Hid (M2.onRound on round (g.steps.drop (j + 1)) (j + 1) (ow.set FR (j : Int)) (far.set FR round) true = some (ow2, far2, gr2)) := HSETQ.out
                        go_wp2
                        go_roundg (ns - (j + 1))
                        case measure => omega
                        case rel => exact ⟨j + 1, true, _, _, by omega, rfl, by go_num, rfl, HN.out, HSET.out, by rw [List.length_set]; exact HP2.out.1.2.1, by rw [List.length_set]; exact HP2.out.1.2.2.1, HFV.out⟩
                      | false =>
                        have HSETQ : Hid (M2.onRound on round (g.steps.drop (j + 1)) (j + 1) ow far gr = some (ow2, far2, gr2)) := by
                          rcases HC.out with h | h
                          · rcases h.2.1 with h3 | h3
                            · exact absurd (HTT.out.2 h3) (by simp)
                            · omega
                          · exact h.2
                        clear hnb hfb
                        have HN : Hid (M2.onRound on round (g.steps.drop (j + 1)) (j + 1) ow far gr = some (ow2, far2, gr2)) := HSETQ.out
                        go_wp2
                        go_roundg (ns - (j + 1))
                        case measure => omega
                        case rel => exact ⟨j + 1, gr, _, _, by omega, rfl, by go_num, rfl, HN.out, HP2.out.1⟩
                    · have f1 : ((ff : Int) == 0) = false := by rw [beq_eq_false_iff_ne]; omega
                      cases T with
                      | true =>
                        have HSETQ : Hid (M2.onRound on round (g.steps.drop (j + 1)) (j + 1) ow far gr = some (ow2, far2, gr2)) := by
                          rcases HC.out with h | h
                          · exact absurd h.1 hfb
                          · exact h.2
                        clear hnb hfb
                        have HN : Hid (M2.onRound on round (g.steps.drop (j + 1)) (j + 1) ow far gr = some (ow2, far2, gr2)) := HSETQ.out
                        go_wp2
                        go_roundg (ns - (j + 1))
                        case measure => omega
                        case rel => exact ⟨j + 1, gr, _, _, by omega, rfl, by go_num, rfl, HN.out, HP2.out.1⟩
                      | false =>
                        have HSETQ : Hid (M2.onRound on round (g.steps.drop (j + 1)) (j + 1) ow far gr = some (ow2, far2, gr2)) := by
                          rcases HC.out with h | h
                          · exact absurd h.1 hfb
                          · exact h.2
                        clear hnb hfb
                        have HN : Hid (M2.onRound on round (g.steps.drop (j + 1)) (j + 1) ow far gr = some (ow2, far2, gr2)) := HSETQ.out
                        go_wp2
                        go_roundg (ns - (j + 1))
                        case measure => omega
                        case rel => exact ⟨j + 1, gr, _, _, by omega, rfl, by go_num, rfl, HN.out, HP2.out.1⟩
              · obtain rfl : j = ns := by omega
                have e1 : g.steps.drop j = [] := List.drop_of_length_le (by have := HL.out.1; omega)
                rw [e1, M2.onRound] at hgo
                have HG : Hid (ow = ow2 ∧ far = far2 ∧ gr = gr2) := by
                  have h : some (ow, far, gr) = some (ow2, far2, gr2) := hgo
                  cases h; exact ⟨rfl, rfl, rfl⟩
                have hjj : ¬ (j : Int) < (j : Int) := by omega
                clear hI hgo e1 hgj hjn hlj
                go_wp2
                go_roundg (f + 1)
                case measure => omega
                case rel =>
                  refine ⟨gr2, round + 1, ow2, far2, by rw [HG.out.2.2], by go_num, by omega, by omega, by rw [← HG.out.1]; exact HI.out.2.1, by rw [← HG.out.2.1]; exact HI.out.2.2.1, by rw [← HG.out.2.1]; exact HI.out.2.2.2, by rw [← HG.out.1, ← HG.out.2.1]; exact HI.out.1, ?_⟩
                  rcases HEND.out with ⟨h1, h2⟩ | h
                  · exact Or.inl ⟨h1, f, rfl, h2⟩
                  · exact Or.inr h
        · clear hI
          go_wp2
          go_ret
          exact ⟨HI.out.1.md, _, rfl, HI.out.1.on, fun q hq => by cases hq; exact Nat.le_refl _⟩
end Go.Proofs.YtmbapmbpnnaanabGreatDoor
