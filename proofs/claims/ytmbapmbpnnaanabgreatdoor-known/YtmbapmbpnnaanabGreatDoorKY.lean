import Derived.Test.YtmbapmbpnnaanabGreatDoorKW
namespace Go.Proofs.YtmbapmbpnnaanabGreatDoor
open Go.RowKit
attribute [local go_sem ↓] Go.wp_at_zero Go.wp_at_succ

theorem BoE.cell {w : World} {g n cap : Nat} {xs : List Bool} (h : Row BoE w (.slice (some ⟨g, 0, none⟩) n cap) xs) {i : Nat} {x : Bool} (hx : xs[i]? = some x) : w.cell? ⟨g, i, none⟩ = some (.bool x) := by
  have := h.cell i 0 hx (u := .bool x) rfl
  have e : i * BoE.c + 0 = i := by show i * 1 + 0 = i; omega
  rwa [e] at this

/-- What 'byHit' has made of the first i. -/
def bhOf (h0 : Bool) (hs : List Bool) (i : Nat) : List Nat := (hs.take i).map (fun h => if h = h0 then 0 else 1) ++ List.replicate (hs.length - i) 0
def bhC (h0 : Bool) (hs : List Bool) (i : Nat) : Nat := if (hs.take i).any (fun h => !(decide (h = h0))) then 2 else 1
theorem byHitGo_eq (h0 : Bool) : ∀ hs : List Bool, M2.byHitGo h0 hs = (hs.map (fun h => if h = h0 then 0 else 1), if hs.any (fun h => !(decide (h = h0))) then 2 else 1)
  | [] => rfl
  | h :: hs => by
    rw [M2.byHitGo, byHitGo_eq h0 hs]
    by_cases e : h = h0
    · simp [e]
    · simp [e]
theorem byHit_eq (a : M2.Auto) : M2.byHit a = (bhOf (a.hit.getD 0 false) a.hit a.hit.length, bhC (a.hit.getD 0 false) a.hit a.hit.length) := by
  unfold M2.byHit bhOf bhC
  rw [byHitGo_eq]
  simp
theorem bhOf_len (h0 : Bool) (hs : List Bool) (i : Nat) (hi : i ≤ hs.length) : (bhOf h0 hs i).length = hs.length := by unfold bhOf; simp; omega
theorem bhOf_get (h0 : Bool) (hs : List Bool) (i : Nat) (hi : i < hs.length) : (bhOf h0 hs i)[i]? = some 0 := by
  unfold bhOf
  rw [List.getElem?_append_right (by simp; omega), List.getElem?_replicate]
  simp; omega
theorem bhOf_set (h0 : Bool) (hs : List Bool) (i : Nat) (h : Bool) (hh : hs[i]? = some h) : (bhOf h0 hs i).set i (if h = h0 then 0 else 1) = bhOf h0 hs (i + 1) := by
  have hi : i < hs.length := (List.getElem?_eq_some_iff.1 hh).1
  unfold bhOf
  rw [List.set_append_right _ _ (by simp; omega), List.take_add_one, hh]
  have e : i - ((hs.take i).map (fun h => if h = h0 then 0 else 1)).length = 0 := by simp; omega
  rw [e, show hs.length - i = (hs.length - (i + 1)) + 1 by omega, List.replicate_succ, List.set_cons_zero]
  simp
theorem bhC_same (h0 : Bool) (hs : List Bool) (i : Nat) (hh : hs[i]? = some h0) : bhC h0 hs (i + 1) = bhC h0 hs i := by
  unfold bhC; rw [List.take_add_one, hh]; simp
theorem bhC_other (h0 : Bool) (hs : List Bool) (i : Nat) (h : Bool) (hh : hs[i]? = some h) (hne : ¬ h = h0) : bhC h0 hs (i + 1) = 2 := by
  unfold bhC; rw [List.take_add_one, hh]; simp [hne]

/-- Classes: where they lie, and how many. -/
def ClPost (of : List Nat) (c : Nat) (w : World) (e : Ending) (w' : World) : Prop :=
  Mod No w w' ∧ ∃ v, e = .returned (.agg #[v, .int .i64 (c : Int)]) ∧ Row InE w' v of ∧ (∀ g, v.ownBlock = some g → w.heap.size ≤ g)

set_option maxHeartbeats 2000000 in
set_option maxRecDepth 100000 in
theorem byHit_any (w : World) (vx vh : Value) (a : M2.Auto) (hx : Row R4E w vx a.nx) (hh : Row BoE w vh a.hit) (hl : a.hit.length ≤ 300000) (h0 : 0 < a.hit.length) :
    Calls Tryz.prog 87 #[.agg #[vx, vh]] w fun e w' => ClPost (M2.byHit a).1 (M2.byHit a).2 w e w' := by
  rw [byHit_eq]
  obtain ⟨xa, xcap, rfl, -, -, -⟩ := hx.any
  obtain ⟨g, cap, rfl, hg, hcap⟩ := hh.form h0
  obtain ⟨hs, hhs⟩ : ∃ hs, hs = a.hit := ⟨_, rfl⟩
  rw [← hhs] at hh hl h0 hcap ⊢
  generalize a.nx.length = ln
  obtain ⟨b0, hb0⟩ : ∃ b0, hs[0]? = some b0 := ⟨hs[0], List.getElem?_eq_getElem h0⟩
  have e0 : hs.getD 0 false = b0 := by rw [List.getD_eq_getElem?_getD, hb0]; rfl
  rw [e0]
  obtain ⟨n, hn⟩ : ∃ n, n = hs.length := ⟨_, rfl⟩
  rw [← hn] at hh hl h0 hcap ⊢
  have hmk := make_ints n (by omega)
  have HH : Hid (Row BoE w (.slice (some ⟨g, 0, none⟩) n cap) hs) := hh
  have HN : Hid (n = hs.length) := hn
  have HB0 : Hid (hs[0]? = some b0) := hb0
  clear hx hhs hh hn hb0 e0
  go_enter Tryz.func87, Tryz.ntmps87
  go_wp2_with fail
  clear hmk
  have HI0 : Hid (∀ A B C D, A = Obj.cells #[.slice xa ln xcap, .slice (some ⟨g, 0, none⟩) n cap] 142 → B = Obj.cells #[.slice none 0 0, .int .i64 0] 198 → C = Obj.cells (Array.replicate n (.int .i64 0)) 3 → D = Obj.cells #[.slice (some ⟨w.heap.size + 1 + 1, 0, none⟩) n n, .int .i64 1] 198 →
      Blk ((((w.alloc A).alloc B).alloc C).alloc D) w.heap.size [.slice xa ln xcap, .slice (some ⟨g, 0, none⟩) n cap] 142 ∧ Blk ((((w.alloc A).alloc B).alloc C).alloc D) (w.heap.size + 1) [.slice none 0 0, .int .i64 0] 198 ∧ Row InE ((((w.alloc A).alloc B).alloc C).alloc D) (.slice (some ⟨w.heap.size + 1 + 1, 0, none⟩) n n) (bhOf b0 hs 0) ∧ Blk ((((w.alloc A).alloc B).alloc C).alloc D) (w.heap.size + 1 + 1 + 1) [.slice (some ⟨w.heap.size + 1 + 1, 0, none⟩) n n, .int .i64 1] 198) := by
    intro A B C D hA hB hC hD
    subst hA hB hC hD
    refine ⟨Blk.alloc (new3_0 w _ _ _) _, Blk.alloc (new3_1 w _ _ _) _, ?_, ?_⟩
    · have e : bhOf b0 hs 0 = List.replicate n 0 := by unfold bhOf; rw [HN.out]; simp
      rw [e]
      have hb : Blk ((((w.alloc (Obj.cells #[.slice xa ln xcap, .slice (some ⟨g, 0, none⟩) n cap] 142)).alloc (Obj.cells #[.slice none 0 0, .int .i64 0] 198)).alloc (Obj.cells (Array.replicate n (.int .i64 0)) 3)).alloc (Obj.cells #[.slice (some ⟨w.heap.size + 1 + 1, 0, none⟩) n n, .int .i64 1] 198)) (w.heap.size + 1 + 1) ((List.replicate n (0 : Nat)).flatMap InE.f) 3 := by
        rw [ints_zero]
        refine Blk.alloc ?_ _
        have := new3_2 w (Obj.cells #[.slice xa ln xcap, .slice (some ⟨g, 0, none⟩) n cap] 142) (Obj.cells #[.slice none 0 0, .int .i64 0] 198) (Obj.cells (Array.replicate n (.int .i64 0)) 3)
        unfold Blk
        rw [this]
        simp
      have := Row.of_block hb (by simp; unfold maxLen; omega)
      simpa using this
    · unfold Blk
      simpa using heap_alloc_new (((w.alloc (Obj.cells #[.slice xa ln xcap, .slice (some ⟨g, 0, none⟩) n cap] 142)).alloc (Obj.cells #[.slice none 0 0, .int .i64 0] 198)).alloc (Obj.cells (Array.replicate n (.int .i64 0)) 3)) (Obj.cells #[.slice (some ⟨w.heap.size + 1 + 1, 0, none⟩) n n, .int .i64 1] 198)
  go_loopg [14] n (fun gh v14 wr => ∃ i : Nat, i ≤ n ∧ gh = n - i ∧ v14 = .int .i64 (i : Int) ∧ Blk wr w.heap.size [.slice xa ln xcap, .slice (some ⟨g, 0, none⟩) n cap] 142 ∧ Blk wr (w.heap.size + 1) [.slice none 0 0, .int .i64 0] 198 ∧ Row InE wr (.slice (some ⟨w.heap.size + 1 + 1, 0, none⟩) n n) (bhOf b0 hs i) ∧ Blk wr (w.heap.size + 1 + 1 + 1) [.slice (some ⟨w.heap.size + 1 + 1, 0, none⟩) n n, .int .i64 (bhC b0 hs i : Int)] 198 ∧ Mod No w wr)
  case atStart =>
    have h := HI0.out _ _ _ _ rfl rfl rfl rfl
    exact ⟨0, by omega, by omega, rfl, h.1, h.2.1, h.2.2.1, h.2.2.2, ((((Mod.refl _ _).alloc _).alloc _).alloc _).alloc _⟩
  case round =>
    obtain ⟨i, hi, hgk, rfl, hX, hR, hO, hC, hm⟩ := hrel
    have HX : Hid (Blk wr w.heap.size [.slice xa ln xcap, .slice (some ⟨g, 0, none⟩) n cap] 142) := hX
    have HR : Hid (Blk wr (w.heap.size + 1) [.slice none 0 0, .int .i64 0] 198) := hR
    have HO : Hid (Row InE wr (.slice (some ⟨w.heap.size + 1 + 1, 0, none⟩) n n) (bhOf b0 hs i)) := hO
    have HC : Hid (Blk wr (w.heap.size + 1 + 1 + 1) [.slice (some ⟨w.heap.size + 1 + 1, 0, none⟩) n n, .int .i64 (bhC b0 hs i : Int)] 198) := hC
    have HM : Hid (Mod No w wr) := hm
    by_cases hlt : i < n
    · obtain ⟨b, hb⟩ : ∃ b, hs[i]? = some b := ⟨hs[i]'(by have := HN.out; omega), List.getElem?_eq_getElem _⟩
      have hH := HH.out.no hm
      have ci := BoE.cell hH hb
      have c0 := BoE.cell hH HB0.out
      have x1 := hX.cell 1 rfl
      have o0 := hC.cell 0 rfl
      have o1 := hC.cell 1 rfl
      have fo1 := hC.free 1
      have oi := InE.cell hO (bhOf_get b0 hs i (by have := HN.out; omega))
      have foi := hO.free i
      have hilt : (i : Int) < (n : Int) := by omega
      have hn0 : (0 : Int) < (n : Int) := by omega
      have HB : Hid (hs[i]? = some b) := hb
      clear hX hR hO hC hm hH hb
      by_cases e : b = b0
      · subst e
        have HSET : Hid (bhOf b hs i = bhOf b hs (i + 1)) := by
          show bhOf b hs i = bhOf b hs (i + 1)
          rw [← bhOf_set b hs i b HB.out, if_pos rfl]
          refine (List.ext_getElem? fun j => ?_)
          rw [List.getElem?_set]
          split
          · rename_i e2
            subst e2
            rw [bhOf_get b hs i (by have := HN.out; omega), if_pos (by rw [bhOf_len b hs i (by have := HN.out; omega)]; have := HN.out; omega)]
          · rfl
        go_wp2
        go_roundg (n - (i + 1))
        case measure => omega
        case rel => exact ⟨i + 1, by omega, rfl, by go_num, HX.out, HR.out, by rw [← HSET.out]; exact HO.out, by rw [bhC_same b hs i HB.out]; exact HC.out, HM.out⟩
      · have hne : (b == b0) = false := by simpa using e
        have hne2 : (b != b0) = true := by simpa using e
        have HE : Hid (¬ b = b0) := e
        clear e
        go_wp2
        go_roundg (n - (i + 1))
        case measure => omega
        case rel =>
          refine ⟨i + 1, by omega, rfl, by go_num, ?_, ?_, ?_, ?_, ?_⟩
          · exact (HX.out.other (a := ⟨w.heap.size + 1 + 1, i, none⟩) (by simp; omega) _).other (a := ⟨w.heap.size + 1 + 1 + 1, 1, none⟩) (by simp; omega) _
          · exact (HR.out.other (a := ⟨w.heap.size + 1 + 1, i, none⟩) (by simp) _).other (a := ⟨w.heap.size + 1 + 1 + 1, 1, none⟩) (show w.heap.size + 1 ≠ w.heap.size + 1 + 1 + 1 by omega) _
          · rw [← bhOf_set b0 hs i b HB.out, if_neg HE.out]
            exact (InE.put HO.out 1 (bhOf_get b0 hs i (by have := HN.out; omega))).other (a := ⟨w.heap.size + 1 + 1 + 1, 1, none⟩) (by simp [Value.ownBlock]) _
          · rw [bhC_other b0 hs i b HB.out HE.out]
            exact (HC.out.other (a := ⟨w.heap.size + 1 + 1, i, none⟩) (by simp) _).set 1 _
          · exact (HM.out.setCell (a := ⟨w.heap.size + 1 + 1, i, none⟩) (fun h => absurd h (by simp; omega)) _).setCell (a := ⟨w.heap.size + 1 + 1 + 1, 1, none⟩) (fun h => absurd h (by simp; omega)) _
    · obtain rfl : i = n := by omega
      have o0 := hC.cell 0 rfl
      have o1 := hC.cell 1 rfl
      have r0 := hR.cell 0 rfl
      have r1 := hR.cell 1 rfl
      have f0 := hR.free 0
      have f1 := hR.free 1
      clear hX hR hO hC hm
      go_wp2
      refine bodyPost_ret (v := .agg #[.slice (some ⟨w.heap.size + 1 + 1, 0, none⟩) i i, .int .i64 (bhC b0 hs i : Int)]) (by simp [results, Tryz.results87, go_sem, r0, r1]) rfl ⟨?_, _, rfl, ?_, fun g2 hg2 => ?_⟩
      · exact (HM.out.setCell (a := ⟨w.heap.size + 1, 0, none⟩) (fun h => absurd h (by simp)) _).setCell (a := ⟨w.heap.size + 1, 1, none⟩) (fun h => absurd h (by simp)) _
      · exact (HO.out.other (a := ⟨w.heap.size + 1, 0, none⟩) (by simp [Value.ownBlock]) _).other (a := ⟨w.heap.size + 1, 1, none⟩) (by simp [Value.ownBlock]) _
      · cases hg2; show w.heap.size ≤ w.heap.size + 1 + 1; omega
end Go.Proofs.YtmbapmbpnnaanabGreatDoor
namespace Go.Proofs.YtmbapmbpnnaanabGreatDoor
open Go.RowKit
attribute [local go_sem ↓] Go.wp_at_zero Go.wp_at_succ

def r4c (r : Mir.R4) : List Value := [.int .i64 (r.a : Int), .int .i64 (r.b : Int), .int .i64 (r.c : Int), .int .i64 (r.d : Int)]
def r4g (r : Mir.R4) (l : Nat) : Nat := (r.get l).getD 0
theorem r4c_get (r : Mir.R4) (l : Nat) (hl : l < 4) : (r4c r)[l]? = some (.int .i64 (r4g r l : Int)) := by
  match l, hl with
  | 0, _ => rfl
  | 1, _ => rfl
  | 2, _ => rfl
  | 3, _ => rfl
theorem new5 (w : World) (A B C D E : Obj) : (((((w.alloc A).alloc B).alloc C).alloc D).alloc E).heap[w.heap.size]? = some A ∧ (((((w.alloc A).alloc B).alloc C).alloc D).alloc E).heap[w.heap.size + 1]? = some B ∧ (((((w.alloc A).alloc B).alloc C).alloc D).alloc E).heap[w.heap.size + 1 + 1]? = some C ∧ (((((w.alloc A).alloc B).alloc C).alloc D).alloc E).heap[w.heap.size + 1 + 1 + 1]? = some D ∧ (((((w.alloc A).alloc B).alloc C).alloc D).alloc E).heap[w.heap.size + 1 + 1 + 1 + 1]? = some E := by
  refine ⟨?_, ?_, ?_, ?_, ?_⟩
  · rw [Below.heap_alloc _ _ _ (by simp; omega), Below.heap_alloc _ _ _ (by simp; omega)]; exact new3_0 w A B C
  · rw [Below.heap_alloc _ _ _ (by simp; try omega), Below.heap_alloc _ _ _ (by simp; try omega)]; exact new3_1 w A B C
  · rw [Below.heap_alloc _ _ _ (by simp), Below.heap_alloc _ _ _ (by simp)]; exact new3_2 w A B C
  · rw [Below.heap_alloc _ _ _ (by simp)]; simpa using heap_alloc_new (((w.alloc A).alloc B).alloc C) D
  · simpa using heap_alloc_new ((((w.alloc A).alloc B).alloc C).alloc D) E

/-- The blocks of 'split' (S: the first): the new classes of the first ones in fin. -/
structure SpI (w : World) (S : Nat) (vo : Value) (m M n c : Nat) (met fin : List Nat) (wr : World) : Prop where
  box : Blk wr S [vo, .int .i64 (m : Int)] 198
  res : Blk wr (S + 1) [.slice none 0 0, .int .i64 0] 198
  met : Row InE wr (.slice (some ⟨S + 1 + 1, 0, none⟩) M M) met
  fin : Row InE wr (.slice (some ⟨S + 1 + 1 + 1, 0, none⟩) n n) (fin ++ List.replicate (n - fin.length) 0)
  cur : Blk wr (S + 1 + 1 + 1 + 1) [.slice (some ⟨S + 1 + 1 + 1, 0, none⟩) n n, .int .i64 (c : Int)] 198
  md : Mod No w wr
  le : w.heap.size ≤ S
section
variable {w : World} {S : Nat} {vo : Value} {m M n c : Nat} {met fin : List Nat} {wr wr' : World}
theorem SpI.no (h : SpI w S vo m M n c met fin wr) (hm : Mod No wr wr') : SpI w S vo m M n c met fin wr' :=
  ⟨h.box.mod hm (fun x => x), h.res.mod hm (fun x => x), h.met.no hm, h.fin.no hm, h.cur.mod hm (fun x => x), h.md.no hm, h.le⟩
theorem SpI.count (h : SpI w S vo m M n c met fin wr) (d : Nat) : SpI w S vo m M n d met fin (wr.setCell ⟨S + 1 + 1 + 1 + 1, 1, none⟩ (.int .i64 (d : Int))) :=
  ⟨h.box.other (a := ⟨S + 1 + 1 + 1 + 1, 1, none⟩) (show S ≠ S + 1 + 1 + 1 + 1 by omega) _, h.res.other (a := ⟨S + 1 + 1 + 1 + 1, 1, none⟩) (show S + 1 ≠ S + 1 + 1 + 1 + 1 by omega) _,
   h.met.other (a := ⟨S + 1 + 1 + 1 + 1, 1, none⟩) (fun e => by have : S + 1 + 1 = S + 1 + 1 + 1 + 1 := Option.some.inj e; omega) _, h.fin.other (a := ⟨S + 1 + 1 + 1 + 1, 1, none⟩) (fun e => by have : S + 1 + 1 + 1 = S + 1 + 1 + 1 + 1 := Option.some.inj e; omega) _,
   h.cur.set 1 _, h.md.setCell (a := ⟨S + 1 + 1 + 1 + 1, 1, none⟩) (fun e => by have := h.le; have : S + 1 + 1 + 1 + 1 < w.heap.size := e; omega) _, h.le⟩
theorem SpI.meet (h : SpI w S vo m M n c met fin wr) {p u : Nat} (hp : met[p]? = some u) (d : Nat) : SpI w S vo m M n c (met.set p d) fin (wr.setCell ⟨S + 1 + 1, p, none⟩ (.int .i64 (d : Int))) :=
  ⟨h.box.other (a := ⟨S + 1 + 1, p, none⟩) (show S ≠ S + 1 + 1 by omega) _, h.res.other (a := ⟨S + 1 + 1, p, none⟩) (show S + 1 ≠ S + 1 + 1 by omega) _,
   InE.put h.met d hp, h.fin.other (a := ⟨S + 1 + 1, p, none⟩) (fun e => by have : S + 1 + 1 + 1 = S + 1 + 1 := Option.some.inj e; omega) _,
   h.cur.other (a := ⟨S + 1 + 1, p, none⟩) (show S + 1 + 1 + 1 + 1 ≠ S + 1 + 1 by omega) _, h.md.setCell (a := ⟨S + 1 + 1, p, none⟩) (fun e => by have := h.le; have : S + 1 + 1 < w.heap.size := e; omega) _, h.le⟩
theorem fin_get {fin : List Nat} {n i : Nat} (hi : fin.length = i) (hn : i < n) : (fin ++ List.replicate (n - fin.length) 0)[i]? = some 0 := by
  rw [List.getElem?_append_right (by omega), List.getElem?_replicate]; simp; omega
theorem fin_set {fin : List Nat} {n i : Nat} (hi : fin.length = i) (hn : i < n) (d : Nat) : (fin ++ List.replicate (n - fin.length) 0).set i d = (fin ++ [d]) ++ List.replicate (n - (fin ++ [d]).length) 0 := by
  rw [List.set_append_right _ _ (by omega), show i - fin.length = 0 by omega, show n - fin.length = (n - (fin ++ [d]).length) + 1 by simp; omega, List.replicate_succ, List.set_cons_zero]
  simp
theorem SpI.put (h : SpI w S vo m M n c met fin wr) {i : Nat} (hi : fin.length = i) (hn : i < n) (d : Nat) : SpI w S vo m M n c met (fin ++ [d]) (wr.setCell ⟨S + 1 + 1 + 1, i, none⟩ (.int .i64 (d : Int))) :=
  ⟨h.box.other (a := ⟨S + 1 + 1 + 1, i, none⟩) (show S ≠ S + 1 + 1 + 1 by omega) _, h.res.other (a := ⟨S + 1 + 1 + 1, i, none⟩) (show S + 1 ≠ S + 1 + 1 + 1 by omega) _,
   h.met.other (a := ⟨S + 1 + 1 + 1, i, none⟩) (fun e => by have : S + 1 + 1 = S + 1 + 1 + 1 := Option.some.inj e; omega) _, by rw [← fin_set hi hn d]; exact InE.put h.fin d (fin_get hi hn),
   h.cur.other (a := ⟨S + 1 + 1 + 1, i, none⟩) (show S + 1 + 1 + 1 + 1 ≠ S + 1 + 1 + 1 by omega) _, h.md.setCell (a := ⟨S + 1 + 1 + 1, i, none⟩) (fun e => by have := h.le; have : S + 1 + 1 + 1 < w.heap.size := e; omega) _, h.le⟩
end

set_option maxHeartbeats 4000000 in
set_option maxRecDepth 100000 in
theorem split_any (w : World) (vo vn : Value) (of : List Nat) (m : Nat) (nx : List Mir.R4) (l : Nat) (hof : Row InE w vo of) (hnx : Row R4E w vn nx) (hm200 : m ≤ 200) (hn0 : 0 < nx.length) (hnl : nx.length ≤ 300000) (hlen : of.length = nx.length) (hl : l < 4) {res : List Nat × Nat} (hM : M2.splitM (of, m) (nx.map fun r => (r.get l).getD 0) = some res) :
    Calls Tryz.prog 126 #[.agg #[vo, .int .i64 (m : Int)], vn, .int .i64 (l : Int)] w fun e w' => ClPost res.1 res.2 w e w' := by
  obtain ⟨g, cap, rfl, hg, hcap⟩ := hnx.form hn0
  obtain ⟨g2, cap2, rfl, hg2, hcap2⟩ := hof.form (by omega)
  obtain ⟨n, hn⟩ : ∃ n, n = nx.length := ⟨_, rfl⟩
  rw [hlen] at hof hcap2
  rw [← hn] at hof hnx hn0 hnl hcap hcap2 hlen
  rw [hlen, ← hn]
  obtain ⟨M, hMd⟩ : ∃ M, M = m * m := ⟨_, rfl⟩
  have hM4 : M ≤ 40000 := by rw [hMd]; exact Nat.le_trans (Nat.mul_le_mul hm200 hm200) (by omega)
  have hmm : (m : Int) * (m : Int) = (M : Int) := by rw [hMd]; exact (Int.natCast_mul m m).symm
  have hmk := make_ints M (by omega)
  have hmk2 := make_ints n (by omega)
  have hli : (l : Int) < 4 := by omega
  have hli0 : (0 : Int) ≤ (l : Int) := by omega
  unfold M2.splitM at hM
  dsimp only at hM
  rw [← hMd] at hM
  have HM : Hid (M2.splitGo of m of (nx.map fun r => (r.get l).getD 0) (List.replicate M 0) [] 0 = some res) := hM
  have HOF : Hid (Row InE w (.slice (some ⟨g2, 0, none⟩) n cap2) of) := hof
  have HNX : Hid (Row R4E w (.slice (some ⟨g, 0, none⟩) n cap) nx) := hnx
  have HN : Hid (n = nx.length) := hn
  have HLEN : Hid (of.length = n) := hlen
  clear hM hof hnx hn hlen hMd
  go_enter Tryz.func126, Tryz.ntmps126
  go_wp2_with fail
  clear hmk hmk2 hmm
  have HI0 : Hid (∀ A B C D E, A = Obj.cells #[.slice (some ⟨g2, 0, none⟩) n cap2, .int .i64 (m : Int)] 198 → B = Obj.cells #[.slice none 0 0, .int .i64 0] 198 → C = Obj.cells (Array.replicate M (.int .i64 0)) 3 → D = Obj.cells (Array.replicate n (.int .i64 0)) 3 → E = Obj.cells #[.slice (some ⟨w.heap.size + 1 + 1 + 1, 0, none⟩) n n, .int .i64 0] 198 →
      SpI w w.heap.size (.slice (some ⟨g2, 0, none⟩) n cap2) m M n 0 (List.replicate M 0) [] (((((w.alloc A).alloc B).alloc C).alloc D).alloc E)) := by
    intro A B C D E hA hB hC hD hE
    have h5 := new5 w A B C D E
    have hmd : Mod No w (((((w.alloc A).alloc B).alloc C).alloc D).alloc E) := (((((Mod.refl _ _).alloc _).alloc _).alloc _).alloc _).alloc _
    generalize (((((w.alloc A).alloc B).alloc C).alloc D).alloc E) = W at h5 hmd ⊢
    subst hA hB hC hD hE
    refine ⟨h5.1, h5.2.1, ?_, ?_, h5.2.2.2.2, hmd, Nat.le_refl _⟩
    · have hb : Blk W (w.heap.size + 1 + 1) ((List.replicate M (0 : Nat)).flatMap InE.f) 3 := by
        rw [ints_zero]; unfold Blk; rw [h5.2.2.1]; simp
      have := Row.of_block hb (by simp; unfold maxLen; omega)
      simpa using this
    · have hb : Blk W (w.heap.size + 1 + 1 + 1) ((List.replicate n (0 : Nat)).flatMap InE.f) 3 := by
        rw [ints_zero]; unfold Blk; rw [h5.2.2.2.1]; simp
      have := Row.of_block hb (by simp; unfold maxLen; omega)
      simpa using this
  go_loopg [24] n (fun gh v24 wr => ∃ (i c : Nat) (met fin : List Nat), i ≤ n ∧ gh = n - i ∧ v24 = .int .i64 (i : Int) ∧ fin.length = i ∧ c ≤ i ∧ SpI w w.heap.size (.slice (some ⟨g2, 0, none⟩) n cap2) m M n c met fin wr ∧ (∀ u ∈ met, u ≤ c) ∧ M2.splitGo of m (of.drop i) ((nx.map fun r => (r.get l).getD 0).drop i) met fin c = some res)
  case atStart => exact ⟨0, 0, _, [], by omega, by omega, rfl, rfl, by omega, HI0.out _ _ _ _ _ rfl rfl rfl rfl rfl, fun u hu => by rw [List.eq_of_mem_replicate hu]; omega, HM.out⟩
  case round =>
    obtain ⟨i, c, met, fin, hi, hgk, rfl, hfl, hci, hI, hmv, hsp⟩ := hrel
    by_cases hlt : i < n
    · obtain ⟨r, hr⟩ : ∃ r, nx[i]? = some r := ⟨nx[i]'(by have := HN.out; omega), List.getElem?_eq_getElem _⟩
      obtain ⟨x, hx⟩ : ∃ x, of[i]? = some x := ⟨of[i]'(by have := HLEN.out; omega), List.getElem?_eq_getElem _⟩
      have hd1 : of.drop i = x :: of.drop (i + 1) := by
        obtain ⟨h1, rfl⟩ := List.getElem?_eq_some_iff.1 hx
        exact List.drop_eq_getElem_cons h1
      have hd2 : (nx.map fun r => (r.get l).getD 0).drop i = r4g r l :: (nx.map fun r => (r.get l).getD 0).drop (i + 1) := by
        obtain ⟨h1, rfl⟩ := List.getElem?_eq_some_iff.1 hr
        rw [List.drop_eq_getElem_cons (by rw [List.length_map]; exact h1)]
        simp [r4g]
      rw [hd1, hd2, M2.splitGo] at hsp
      generalize hTd : r4g r l = T at hsp
      cases hy : of[T]? with
      | none => rw [hy] at hsp; cases hsp
      | some y =>
        rw [hy] at hsp
        dsimp only at hsp
        cases hu : met[x * m + y]? with
        | none => rw [hu] at hsp; cases hsp
        | some u =>
          rw [hu] at hsp
          obtain ⟨xm, hxm⟩ : ∃ xm, xm = x * m := ⟨_, rfl⟩
          obtain ⟨p, hp⟩ : ∃ p, p = xm + y := ⟨_, rfl⟩
          rw [← hxm, ← hp] at hu hsp
          have hpM : p < M := by
            have h1 := (List.getElem?_eq_some_iff.1 hu).1
            have h2 := hI.met.any
            obtain ⟨_, _, h3, _, _, _⟩ := h2
            cases h3
            omega
          have hub := hmv u (List.mem_of_getElem? hu)
          have hTn : T < n := by have := (List.getElem?_eq_some_iff.1 hy).1; rw [HLEN.out] at this; exact this
          have hxmi : (x : Int) * (m : Int) = (xm : Int) := by rw [hxm]; exact (Int.natCast_mul x m).symm
          have hpi : (xm : Int) + (y : Int) = (p : Int) := by omega
          have hxml : xm ≤ 40000 := by omega
          have hrow := HNX.out.no hI.md
          have q0 : wr.cell? ⟨g, i * 4, none⟩ = some (.int .i64 (r.a : Int)) := hrow.cell i 0 hr rfl
          have q1 : wr.cell? ⟨g, i * 4 + 1, none⟩ = some (.int .i64 (r.b : Int)) := hrow.cell i 1 hr rfl
          have q2 : wr.cell? ⟨g, i * 4 + 2, none⟩ = some (.int .i64 (r.c : Int)) := hrow.cell i 2 hr rfl
          have q3 : wr.cell? ⟨g, i * 4 + 3, none⟩ = some (.int .i64 (r.d : Int)) := hrow.cell i 3 hr rfl
          obtain ⟨wa, hwa⟩ : ∃ wa, wr.alloc (Obj.cells #[.int .i64 (r.a : Int), .int .i64 (r.b : Int), .int .i64 (r.c : Int), .int .i64 (r.d : Int)] 106) = wa := ⟨_, rfl⟩
          have hma : Mod No wr wa := by rw [← hwa]; exact (Mod.refl _ _).alloc _
          have hIa := hI.no hma
          have hTb : Blk wa wr.heap.size (r4c r) 106 := by rw [← hwa]; exact heap_alloc_new wr _
          have tl := hTb.cell l (r4c_get r l hl)
          rw [hTd] at tl
          have hofa := HOF.out.no hIa.md
          have ox := InE.cell hofa hx
          have oy := InE.cell hofa hy
          have b0 := hIa.box.cell 0 rfl
          have b1 := hIa.box.cell 1 rfl
          have k0 := hIa.cur.cell 0 rfl
          have k1 := hIa.cur.cell 1 rfl
          have fk1 := hIa.cur.free 1
          have mp := InE.cell hIa.met hu
          have fmp := hIa.met.free p
          have hilt : (i : Int) < (n : Int) := by omega
          have hTi : (T : Int) < (n : Int) := by omega
          have hpMi : (p : Int) < (M : Int) := by omega
          have hp0 : (0 : Int) ≤ (p : Int) := by omega
          have HIA : Hid (SpI w w.heap.size (.slice (some ⟨g2, 0, none⟩) n cap2) m M n c met fin wa) := hIa
          have HU : Hid (met[p]? = some u) := hu
          have HMV : Hid (∀ u ∈ met, u ≤ c) := hmv
          clear hr hx hd1 hd2 hTd hy hu hxm hp hrow hma hIa hTb hofa hI hmv
          go_wp2_with fail
          clear hwa q0 q1 q2 q3
          go_quiet (fail)
          match u, hsp with
          | 0, hsp =>
            have HSP : Hid (M2.splitGo of m (of.drop (i + 1)) ((nx.map fun r => (r.get l).getD 0).drop (i + 1)) (met.set p (c + 1)) (fin ++ [c]) (c + 1) = some res) := hsp
            have hI2 : SpI w w.heap.size (.slice (some ⟨g2, 0, none⟩) n cap2) m M n (c + 1) (met.set p (c + 1)) fin (((wa.drewN nq).setCell ⟨w.heap.size + 1 + 1 + 1 + 1, 1, none⟩ (.int .i64 ((c + 1 : Nat) : Int))).setCell ⟨w.heap.size + 1 + 1, p, none⟩ (.int .i64 ((c + 1 : Nat) : Int))) := ((HIA.out.no ((Mod.refl _ _).drewN nq)).count (c + 1)).meet HU.out (c + 1)
            obtain ⟨wb, hwb⟩ : ∃ wb, ((wa.drewN nq).setCell ⟨w.heap.size + 1 + 1 + 1 + 1, 1, none⟩ (.int .i64 ((c : Int) + 1))).setCell ⟨w.heap.size + 1 + 1, p, none⟩ (.int .i64 ((c : Int) + 1)) = wb := ⟨_, rfl⟩
            rw [show (((c + 1 : Nat) : Int)) = (c : Int) + 1 by omega, hwb] at hI2
            clear hsp
            go_wp2
            clear hwb b0 b1 k0 k1 fk1 mp fmp ox oy tl
            have HI2 : Hid (SpI w w.heap.size (.slice (some ⟨g2, 0, none⟩) n cap2) m M n (c + 1) (met.set p (c + 1)) fin wb) := hI2
            have mp := InE.cell hI2.met (i := p) (x := c + 1) (by rw [List.getElem?_set, if_pos rfl, if_pos (List.getElem?_eq_some_iff.1 HU.out).1])
            have k0 := hI2.cur.cell 0 rfl
            have fi := InE.cell hI2.fin (fin_get hfl hlt)
            have ffi := hI2.fin.free i
            clear hI2
            obtain ⟨d, hd⟩ : ∃ d, d = c + 1 := ⟨_, rfl⟩
            rw [← hd] at mp
            have HD : Hid (d = c + 1) := hd
            have hd1 : 1 ≤ d := by omega
            have hd2 : d ≤ 300001 := by omega
            clear hd
            go_region
            go_wp2
            go_roundg (n - (i + 1))
            case measure => omega
            case rel =>
              refine ⟨i + 1, c + 1, met.set p (c + 1), fin ++ [c], by omega, rfl, by go_num, by simp; omega, by omega, ?_, ?_, HSP.out⟩
              · rw [show (d : Int) - 1 = (c : Int) by have := HD.out; omega]
                exact (HI2.out.put hfl hlt c).no ((Mod.refl _ _).drew)
              · intro u hu
                rcases List.mem_or_eq_of_mem_set hu with h | h
                · have := HMV.out u h; omega
                · omega
          | u + 1, hsp =>
            have HSP : Hid (M2.splitGo of m (of.drop (i + 1)) ((nx.map fun r => (r.get l).getD 0).drop (i + 1)) met (fin ++ [u]) c = some res) := hsp
            have hne : (((u : Int) + 1) == 0) = false := by rw [beq_eq_false_iff_ne]; omega
            have hI2 : SpI w w.heap.size (.slice (some ⟨g2, 0, none⟩) n cap2) m M n c met fin (wa.drewN nq) := HIA.out.no ((Mod.refl _ _).drewN nq)
            clear hsp
            go_wp2
            generalize wa.drewN nq = wb at hI2 ⊢
            clear b0 b1 k0 k1 fk1 mp fmp ox oy tl hne
            have HI2 : Hid (SpI w w.heap.size (.slice (some ⟨g2, 0, none⟩) n cap2) m M n c met fin wb) := hI2
            have mp := InE.cell hI2.met HU.out
            have k0 := hI2.cur.cell 0 rfl
            have fi := InE.cell hI2.fin (fin_get hfl hlt)
            have ffi := hI2.fin.free i
            clear hI2
            obtain ⟨d, hd⟩ : ∃ d, d = u + 1 := ⟨_, rfl⟩
            rw [← hd] at mp
            have HD : Hid (d = u + 1) := hd
            have hd1 : 1 ≤ d := by omega
            have hd2 : d ≤ 300001 := by omega
            clear hd
            go_region
            go_wp2
            go_roundg (n - (i + 1))
            case measure => omega
            case rel =>
              refine ⟨i + 1, c, met, fin ++ [u], by omega, rfl, by go_num, by simp; omega, by omega, ?_, HMV.out, HSP.out⟩
              rw [show (d : Int) - 1 = (u : Int) by have := HD.out; omega]
              exact (HI2.out.put hfl hlt u).no ((Mod.refl _ _).drew)
    · obtain rfl : i = n := by omega
      rw [List.drop_of_length_le (by rw [HLEN.out]; omega), List.drop_of_length_le (by rw [List.length_map, ← HN.out]; omega), M2.splitGo] at hsp
      obtain rfl := Option.some.inj hsp
      have HI : Hid (SpI w w.heap.size (.slice (some ⟨g2, 0, none⟩) i cap2) m M i c met fin wr) := hI
      have HFL : Hid (fin ++ List.replicate (i - fin.length) 0 = fin) := by show fin ++ List.replicate (i - fin.length) 0 = fin; rw [hfl]; simp
      have o0 := hI.cur.cell 0 rfl
      have o1 := hI.cur.cell 1 rfl
      have r0 := hI.res.cell 0 rfl
      have r1 := hI.res.cell 1 rfl
      have f0 := hI.res.free 0
      have f1 := hI.res.free 1
      clear hI hsp hmv
      go_wp2
      refine bodyPost_ret (v := .agg #[.slice (some ⟨w.heap.size + 1 + 1 + 1, 0, none⟩) i i, .int .i64 (c : Int)]) (by simp [results, Tryz.results126, go_sem, r0, r1]) rfl ⟨?_, _, rfl, ?_, fun g2 hg2 => ?_⟩
      · exact (HI.out.md.setCell (a := ⟨w.heap.size + 1, 0, none⟩) (fun h => absurd h (by simp)) _).setCell (a := ⟨w.heap.size + 1, 1, none⟩) (fun h => absurd h (by simp)) _
      · have hf := HI.out.fin
        rw [HFL.out] at hf
        exact (hf.other (a := ⟨w.heap.size + 1, 0, none⟩) (by simp [Value.ownBlock]; omega) _).other (a := ⟨w.heap.size + 1, 1, none⟩) (by simp [Value.ownBlock]; omega) _
      · cases hg2; show w.heap.size ≤ w.heap.size + 1 + 1 + 1; omega
end Go.Proofs.YtmbapmbpnnaanabGreatDoor
namespace Go.Proofs.YtmbapmbpnnaanabGreatDoor
open Go.RowKit
attribute [local go_sem ↓] Go.wp_at_zero Go.wp_at_succ

theorem splitGo_len (of : List Nat) (m : Nat) : ∀ (xs ts met fin : List Nat) (c : Nat) (r : List Nat × Nat), M2.splitGo of m xs ts met fin c = some r → r.1.length = fin.length + xs.length
  | [], [], met, fin, c, r, h => by rw [M2.splitGo] at h; cases h; simp
  | [], t :: ts, met, fin, c, r, h => by simp [M2.splitGo] at h
  | x :: xs, [], met, fin, c, r, h => by simp [M2.splitGo] at h
  | x :: xs, t :: ts, met, fin, c, r, h => by
    rw [M2.splitGo] at h
    cases hy : of[t]? with
    | none => rw [hy] at h; cases h
    | some y =>
      rw [hy] at h
      dsimp only at h
      cases hu : met[x * m + y]? with
      | none => rw [hu] at h; cases h
      | some u =>
        rw [hu] at h
        match u, h with
        | 0, h => have := splitGo_len of m xs ts _ _ _ r h; simp at this ⊢; omega
        | u + 1, h => have := splitGo_len of m xs ts _ _ _ r h; simp at this ⊢; omega
theorem split_len {c : List Nat × Nat} {ts : List Nat} {r : List Nat × Nat} (h : M2.splitM c ts = some r) : r.1.length = c.1.length := by
  have := splitGo_len _ _ _ _ _ _ _ _ h
  simpa using this

theorem splitGo_cnt (of : List Nat) (m : Nat) : ∀ (xs ts met fin : List Nat) (c : Nat) (r : List Nat × Nat), M2.splitGo of m xs ts met fin c = some r → r.2 ≤ c + xs.length
  | [], [], met, fin, c, r, h => by rw [M2.splitGo] at h; cases h; simp
  | [], t :: ts, met, fin, c, r, h => by simp [M2.splitGo] at h
  | x :: xs, [], met, fin, c, r, h => by simp [M2.splitGo] at h
  | x :: xs, t :: ts, met, fin, c, r, h => by
    rw [M2.splitGo] at h
    cases hy : of[t]? with
    | none => rw [hy] at h; cases h
    | some y =>
      rw [hy] at h
      dsimp only at h
      cases hu : met[x * m + y]? with
      | none => rw [hu] at h; cases h
      | some u =>
        rw [hu] at h
        match u, h with
        | 0, h => have := splitGo_cnt of m xs ts _ _ _ r h; simp at this ⊢; omega
        | u + 1, h => have := splitGo_cnt of m xs ts _ _ _ r h; simp at this ⊢; omega
theorem split_cnt {c : List Nat × Nat} {ts : List Nat} {r : List Nat × Nat} (h : M2.splitM c ts = some r) : r.2 ≤ c.1.length := by
  have := splitGo_cnt _ _ _ _ _ _ _ _ h
  omega

def RePost (of : List Nat) (c : Nat) (w : World) (e : Ending) (w' : World) : Prop :=
  Mod No w w' ∧ ∃ v, e = .returned (.agg #[v, .int .i64 (c : Int)]) ∧ Row InE w' v of

/-- Where 'Refine' stands. -/
structure ReI (w : World) (S : Nat) (v : Value) (of : List Nat) (c : Nat) (wr : World) : Prop where
  box : Blk wr S [v, .int .i64 (c : Int)] 198
  res : Blk wr (S + 1) [.slice none 0 0, .int .i64 0] 198
  row : Row InE wr v of
  md : Mod No w wr
  le : w.heap.size ≤ S

set_option maxHeartbeats 4000000 in
set_option maxRecDepth 100000 in
theorem refine_any (w : World) (vo vn : Value) (of : List Nat) (m most : Nat) (nx : List Mir.R4) (hof : Row InE w vo of) (hnx : Row R4E w vn nx) (hmost : most ≤ 200) (hm : m ≤ 300000) (hn0 : 0 < nx.length) (hnl : nx.length ≤ 300000) (hlen : of.length = nx.length) {F : Nat} {res : List Nat × Nat} (hM : M2.refineM nx most F (of, m) = some res) :
    Calls Tryz.prog 88 #[.agg #[vo, .int .i64 (m : Int)], vn, .int .i64 (most : Int)] w fun e w' => RePost res.1 res.2 w e w' := by
  obtain ⟨oa, ocap, hvo, -, -, -⟩ := hof.any
  obtain ⟨xa, xcap, hvn, -, -, -⟩ := hnx.any
  have HSP : Hid (∀ wx v (of : List Nat) (c l : Nat) r, Mod No w wx → Row InE wx v of → of.length = nx.length → c ≤ most → l < 4 → M2.splitM (of, c) (nx.map fun r => (r.get l).getD 0) = some r → Calls Tryz.prog 126 #[.agg #[v, .int .i64 (c : Int)], vn, .int .i64 (l : Int)] wx fun e w' => ClPost r.1 r.2 wx e w') :=
    fun wx v of c l r hmd hrow hl hc hl4 hs => split_any wx v vn of c nx l hrow (hnx.no hmd) (by omega) hn0 hnl hl hl4 hs
  have HM : Hid (M2.refineM nx most F (of, m) = some res) := hM
  have HLEN : Hid (of.length = nx.length) := hlen
  have HOF : Hid (Row InE w vo of) := hof
  generalize hol : of.length = ol at hvo
  have HNL : Hid (nx.length ≤ 300000) := hnl
  generalize hxl : nx.length = xl at hvn
  clear hM hlen hol hxl
  subst hvn
  have HI0 : Hid (∀ A B, A = Obj.cells #[vo, .int .i64 (m : Int)] 198 → B = Obj.cells #[.slice none 0 0, .int .i64 0] 198 → ReI w w.heap.size vo of m ((w.alloc A).alloc B)) := fun A B hA hB => ⟨by subst hA; exact new2_0 w _ _, by subst hB; exact new2_1 w _ _, (hof.alloc _).alloc _, ((Mod.refl _ _).alloc _).alloc _, Nat.le_refl _⟩
  rw [hvo] at HI0 HOF ⊢
  clear hof hnx hvo
  go_enter Tryz.func88, Tryz.ntmps88
  go_wp2_with fail
  go_loopg [7, 8] F (fun g _ _ wr => ∃ (v : Value) (of : List Nat) (c : Nat), ReI w w.heap.size v of c wr ∧ of.length = nx.length ∧ c ≤ 300000 ∧ M2.refineM nx most g (of, c) = some res)
  case atStart => exact ⟨_, of, m, HI0.out _ _ rfl rfl, HLEN.out, hm, HM.out⟩
  case round =>
    obtain ⟨v, of, c, hI, hol, hc, href⟩ := hrel
    match gk, href with
    | 0, href => rw [M2.refineM] at href; cases href
    | g + 1, href =>
      rw [M2.refineM] at href
      dsimp only at href
      have HI : Hid (ReI w w.heap.size v of c wr) := hI
      have b1 := hI.box.cell 1 rfl
      by_cases hmc : most < c
      · rw [if_pos hmc] at href
        obtain rfl := Option.some.inj href
        have hmci : ¬ (c : Int) ≤ (most : Int) := by omega
        obtain ⟨va, vcap, hv, -, -, -⟩ := hI.row.any
        clear hol
        generalize of.length = vl at hv
        have b0 := hI.box.cell 0 rfl
        rw [hv] at b0
        have r0 := hI.res.cell 0 rfl
        have r1 := hI.res.cell 1 rfl
        have f0 := hI.res.free 0
        have f1 := hI.res.free 1
        have HV : Hid (v = .slice va vl vcap) := hv
        clear hI href hv
        go_wp2
        refine bodyPost_ret (v := .agg #[.slice va vl vcap, .int .i64 (c : Int)]) (by simp [results, Tryz.results88, go_sem, r0, r1]) rfl ⟨?_, v, by rw [HV.out], ?_⟩
        · exact (HI.out.md.setCell (a := ⟨w.heap.size + 1, 0, none⟩) (fun h => absurd h (by simp)) _).setCell (a := ⟨w.heap.size + 1, 1, none⟩) (fun h => absurd h (by simp)) _
        · have h1 := HI.out.res.apart HI.out.row (by decide)
          exact (HI.out.row.other (a := ⟨w.heap.size + 1, 0, none⟩) h1 _).other (a := ⟨w.heap.size + 1, 1, none⟩) h1 _
      · rw [if_neg hmc] at href
        have hmci : (c : Int) ≤ (most : Int) := by omega
        cases hlt : M2.lettersM nx most 4 (of, c) with
        | none => rw [hlt] at href; cases href
        | some c1 =>
          obtain ⟨of1, k1⟩ := c1
          rw [hlt] at href
          dsimp only at href
          have HLT : Hid (M2.lettersM nx most 4 (of, c) = some (of1, k1)) := hlt
          have HREF : Hid ((if k1 = c then some (of1, k1) else M2.refineM nx most g (of1, k1)) = some res) := href
          clear hI href hlt
          go_wp2_with fail
          go_loopg [8] 4 (fun f v8 wx => ∃ (l : Nat) (v : Value) (of2 : List Nat) (c2 : Nat), v8 = .int .i64 (l : Int) ∧ l + f = 4 ∧ ReI w w.heap.size v of2 c2 wx ∧ of2.length = nx.length ∧ c2 ≤ 300000 ∧ M2.lettersM nx most f (of2, c2) = some (of1, k1))
          case atStart => exact ⟨0, v, of, c, rfl, rfl, HI.out, hol, hc, HLT.out⟩
          case round =>
            obtain ⟨l, v, of2, c2, rfl, hlf, hI, hol2, hc2, hlet⟩ := hrel
            match gk, hlf, hlet with
            | 0, hlf, hlet =>
              rw [M2.lettersM] at hlet
              simp only [Option.some.injEq, Prod.mk.injEq] at hlet
              obtain ⟨rfl, rfl⟩ := hlet
              obtain rfl : l = 4 := by omega
              have b1 := hI.box.cell 1 rfl
              have HI2 : Hid (ReI w w.heap.size v of2 c2 wr) := hI
              by_cases hk : c2 = c
              · have HRS : Hid ((of2, c2) = res) := by
                  have h := HREF.out
                  rw [if_pos hk] at h
                  exact Option.some.inj h
                have hki : ((c2 : Int) == (c : Int)) = true := by rw [hk]; simp
                obtain ⟨va, vcap, hv, -, -, -⟩ := hI.row.any
                generalize of2.length = vl at hv
                have b0 := hI.box.cell 0 rfl
                rw [hv] at b0
                have r0 := hI.res.cell 0 rfl
                have r1 := hI.res.cell 1 rfl
                have f0 := hI.res.free 0
                have f1 := hI.res.free 1
                have HV : Hid (v = .slice va vl vcap) := hv
                clear hI hv hk hol2
                go_wp2
                refine bodyPost_ret (v := .agg #[.slice va vl vcap, .int .i64 (c2 : Int)]) (by simp [results, Tryz.results88, go_sem, r0, r1]) rfl ?_
                rw [← HRS.out]
                refine ⟨?_, v, by rw [HV.out], ?_⟩
                · exact (HI2.out.md.setCell (a := ⟨w.heap.size + 1, 0, none⟩) (fun h => absurd h (by simp)) _).setCell (a := ⟨w.heap.size + 1, 1, none⟩) (fun h => absurd h (by simp)) _
                · have h1 := HI2.out.res.apart HI2.out.row (by decide)
                  exact (HI2.out.row.other (a := ⟨w.heap.size + 1, 0, none⟩) h1 _).other (a := ⟨w.heap.size + 1, 1, none⟩) h1 _
              · have HRG : Hid (M2.refineM nx most g (of2, c2) = some res) := by
                  have h := HREF.out
                  rw [if_neg hk] at h
                  exact h
                have hki : ((c2 : Int) == (c : Int)) = false := by rw [beq_eq_false_iff_ne]; omega
                clear hI hk
                go_wp2
                go_roundg g
                case measure => omega
                case rel => exact ⟨v, of2, c2, HI2.out, hol2, hc2, HRG.out⟩
            | f + 1, hlf, hlet =>
              rw [M2.lettersM] at hlet
              dsimp only at hlet
              have hl4 : l < 4 := by omega
              have hl4i : (l : Int) < 4 := by omega
              have hl3 : 3 - f = l := by omega
              rw [hl3] at hlet
              by_cases hmc2 : most < c2
              · rw [if_pos hmc2] at hlet
                simp only [Option.some.injEq, Prod.mk.injEq] at hlet
                obtain ⟨rfl, rfl⟩ := hlet
                have hmc2i : ¬ (c2 : Int) ≤ (most : Int) := by omega
                have hdm : decide ((c2 : Int) ≤ (most : Int)) = false := decide_eq_false hmc2i
                have hdl : decide ((l : Int) < 4) = true := decide_eq_true hl4i
                have b1 := hI.box.cell 1 rfl
                have HI2 : Hid (ReI w w.heap.size v of2 c2 wr) := hI
                by_cases hk : c2 = c
                · have HRS : Hid ((of2, c2) = res) := by
                    have h := HREF.out
                    rw [if_pos hk] at h
                    exact Option.some.inj h
                  have hki : ((c2 : Int) == (c : Int)) = true := by rw [hk]; simp
                  obtain ⟨va, vcap, hv, -, -, -⟩ := hI.row.any
                  generalize of2.length = vl at hv
                  have b0 := hI.box.cell 0 rfl
                  rw [hv] at b0
                  have r0 := hI.res.cell 0 rfl
                  have r1 := hI.res.cell 1 rfl
                  have f0 := hI.res.free 0
                  have f1 := hI.res.free 1
                  have HV : Hid (v = .slice va vl vcap) := hv
                  clear hI hv hk hol2
                  go_wp2
                  refine bodyPost_ret (v := .agg #[.slice va vl vcap, .int .i64 (c2 : Int)]) (by simp [results, Tryz.results88, go_sem, r0, r1]) rfl ?_
                  rw [← HRS.out]
                  refine ⟨?_, v, by rw [HV.out], ?_⟩
                  · exact (HI2.out.md.setCell (a := ⟨w.heap.size + 1, 0, none⟩) (fun h => absurd h (by simp)) _).setCell (a := ⟨w.heap.size + 1, 1, none⟩) (fun h => absurd h (by simp)) _
                  · have h1 := HI2.out.res.apart HI2.out.row (by decide)
                    exact (HI2.out.row.other (a := ⟨w.heap.size + 1, 0, none⟩) h1 _).other (a := ⟨w.heap.size + 1, 1, none⟩) h1 _
                · have HRG : Hid (M2.refineM nx most g (of2, c2) = some res) := by
                    have h := HREF.out
                    rw [if_neg hk] at h
                    exact h
                  have hki : ((c2 : Int) == (c : Int)) = false := by rw [beq_eq_false_iff_ne]; omega
                  clear hI hk
                  go_wp2
                  go_roundg g
                  case measure => omega
                  case rel => exact ⟨v, of2, c2, HI2.out, hol2, hc2, HRG.out⟩
              · rw [if_neg hmc2] at hlet
                have hmc2i : (c2 : Int) ≤ (most : Int) := by omega
                have hdm : decide ((c2 : Int) ≤ (most : Int)) = true := decide_eq_true hmc2i
                have hdl : decide ((l : Int) < 4) = true := decide_eq_true hl4i
                cases hsm : M2.splitM (of2, c2) (nx.map fun r => (r.get l).getD 0) with
                | none => rw [hsm] at hlet; cases hlet
                | some r3 =>
                  obtain ⟨of3, c3⟩ := r3
                  rw [hsm] at hlet
                  have HLET : Hid (M2.lettersM nx most f (of3, c3) = some (of1, k1)) := hlet
                  have hl5 : of3.length = of2.length := split_len hsm
                  have hc3 : c3 ≤ of2.length := split_cnt hsm
                  obtain ⟨va, vcap, hv, -, -, -⟩ := hI.row.any
                  have hcall := HSP.out wr v of2 c2 l (of3, c3) hI.md hI.row hol2 (by omega) hl4 hsm
                  have b0 := hI.box.cell 0 rfl
                  have b1 := hI.box.cell 1 rfl
                  have HI2 : Hid (ReI w w.heap.size v of2 c2 wr) := hI
                  have HO5 : Hid (of3.length = nx.length ∧ c3 ≤ 300000) := ⟨hl5.trans hol2, by have := HNL.out; omega⟩
                  generalize of2.length = vl at hv
                  rw [hv] at b0 hcall
                  clear hI hsm hlet hv hol2 hl5 hc3
                  go_wp2_with fail
                  refine hcall.mono ?_
                  rintro e w3 ⟨m3, v3, rfl, hr3, ho3⟩
                  clear hcall b0 b1
                  have hB3 := HI2.out.box.mod m3 (fun x => x)
                  have hR3 := HI2.out.res.mod m3 (fun x => x)
                  obtain ⟨va3, vcap3, hv3, -, -, -⟩ := hr3.any
                  have hne3 := hB3.apart hr3 (by decide)
                  have HI3 : Hid (ReI w w.heap.size v3 of3 c3 ((w3.setCell ⟨w.heap.size, 0, none⟩ v3).setCell ⟨w.heap.size, 1, none⟩ (.int .i64 (c3 : Int)))) := ⟨(hB3.set 0 v3).set 1 _, (hR3.other (a := ⟨w.heap.size, 0, none⟩) (by simp) _).other (a := ⟨w.heap.size, 1, none⟩) (by simp) _, (hr3.other (a := ⟨w.heap.size, 0, none⟩) hne3 _).other (a := ⟨w.heap.size, 1, none⟩) hne3 _, ((HI2.out.md.no m3).setCell (a := ⟨w.heap.size, 0, none⟩) (fun h => absurd h (by simp)) _).setCell (a := ⟨w.heap.size, 1, none⟩) (fun h => absurd h (by simp)) _, Nat.le_refl _⟩
                  have s0 := hB3.cell 0 rfl
                  have s1 := hB3.cell 1 rfl
                  have t0 := hB3.free 0
                  have t1 := hB3.free 1
                  generalize of3.length = vl3 at hv3
                  have HV3 : Hid (v3 = .slice va3 vl3 vcap3) := hv3
                  rw [hv3] at HI3 ⊢
                  clear hB3 hR3 hr3 ho3 hne3 hv3 m3
                  go_wp2
                  go_roundg f
                  case measure => omega
                  case rel => exact ⟨l + 1, _, of3, c3, by go_num, by omega, HI3.out, HO5.out.1, HO5.out.2, HLET.out⟩
end Go.Proofs.YtmbapmbpnnaanabGreatDoor
namespace Go.Proofs.YtmbapmbpnnaanabGreatDoor
open Go.RowKit
attribute [local go_sem ↓] Go.wp_at_zero Go.wp_at_succ

theorem ix61 (r : Mir.R4) (l : Nat) (hl : l < 4) (w : World) : (Instr.index 106 (.agg #[.int .i64 (r.a : Int), .int .i64 (r.b : Int), .int .i64 (r.c : Int), .int .i64 (r.d : Int)]) (.int .i64 (l : Int))).run Tryz.prog w = .ok (.int .i64 (r4g r l : Int)) w := by
  obtain ⟨a, b, c, d⟩ := r
  have k0 : ∀ (a b c d : Int) (w : World), (Instr.index 106 (.agg #[.int .i64 a, .int .i64 b, .int .i64 c, .int .i64 d]) (.int .i64 0)).run Tryz.prog w = .ok (.int .i64 a) w := fun a b c d w => by kernel_rfl
  have k1 : ∀ (a b c d : Int) (w : World), (Instr.index 106 (.agg #[.int .i64 a, .int .i64 b, .int .i64 c, .int .i64 d]) (.int .i64 1)).run Tryz.prog w = .ok (.int .i64 b) w := fun a b c d w => by kernel_rfl
  have k2 : ∀ (a b c d : Int) (w : World), (Instr.index 106 (.agg #[.int .i64 a, .int .i64 b, .int .i64 c, .int .i64 d]) (.int .i64 2)).run Tryz.prog w = .ok (.int .i64 c) w := fun a b c d w => by kernel_rfl
  have k3 : ∀ (a b c d : Int) (w : World), (Instr.index 106 (.agg #[.int .i64 a, .int .i64 b, .int .i64 c, .int .i64 d]) (.int .i64 3)).run Tryz.prog w = .ok (.int .i64 d) w := fun a b c d w => by kernel_rfl
  match l, hl with
  | 0, _ => exact k0 _ _ _ _ w
  | 1, _ => exact k1 _ _ _ _ w
  | 2, _ => exact k2 _ _ _ _ w
  | 3, _ => exact k3 _ _ _ _ w

/-- Where 'together' stands. -/
structure TI (w : World) (S : Nat) (vx vh vo : Value) (cn : Nat) (lx lh : Value) (au : M2.Auto) (wr : World) : Prop where
  boxA : Blk wr S [vx, vh] 142
  boxC : Blk wr (S + 1) [vo, .int .i64 (cn : Int)] 198
  res : Blk wr (S + 1 + 1) [.slice none 0 0, .slice none 0 0] 142
  aut : Blk wr (S + 1 + 1 + 1) [lx, lh] 142
  nx : Row R4E wr lx au.nx
  hit : Row BoE wr lh au.hit
  md : Mod No w wr
  ox : ∀ g, lx.ownBlock = some g → w.heap.size ≤ g
  oh : ∀ g, lh.ownBlock = some g → w.heap.size ≤ g
  le : w.heap.size ≤ S
section
variable {w : World} {S : Nat} {vx vh vo : Value} {cn : Nat} {lx lh : Value} {au : M2.Auto} {wr wr' : World}
theorem TI.no (h : TI w S vx vh vo cn lx lh au wr) (hm : Mod No wr wr') : TI w S vx vh vo cn lx lh au wr' :=
  ⟨h.boxA.mod hm (fun x => x), h.boxC.mod hm (fun x => x), h.res.mod hm (fun x => x), h.aut.mod hm (fun x => x), h.nx.no hm, h.hit.no hm, h.md.no hm, h.ox, h.oh, h.le⟩
theorem TI.put {Q : Nat} {cs : List Value} (h : TI w S vx vh vo cn lx lh au wr) (hQ : Blk wr Q cs 106) (h0 : w.heap.size ≤ Q) (hx : lx.ownBlock ≠ some Q) (j : Nat) (v : Value) : TI w S vx vh vo cn lx lh au (wr.setCell ⟨Q, j, none⟩ v) :=
  ⟨h.boxA.other (a := ⟨Q, j, none⟩) (fun e => hQ.diff h.boxA (by decide) e.symm) _, h.boxC.other (a := ⟨Q, j, none⟩) (fun e => hQ.diff h.boxC (by decide) e.symm) _, h.res.other (a := ⟨Q, j, none⟩) (fun e => hQ.diff h.res (by decide) e.symm) _, h.aut.other (a := ⟨Q, j, none⟩) (fun e => hQ.diff h.aut (by decide) e.symm) _,
   h.nx.other (a := ⟨Q, j, none⟩) hx _, h.hit.other (a := ⟨Q, j, none⟩) (hQ.apart h.hit (by decide)) _, h.md.setCell (a := ⟨Q, j, none⟩) (fun e => absurd e (by simp; omega)) _, h.ox, h.oh, h.le⟩
theorem TI.moreX {w7 : World} {v2 : Value} {nx2 : List Mir.R4} (h : TI w S vx vh vo cn lx lh au wr) (hg : wr.grownBy w7 lx.ownBlock) (hrow : Row R4E w7 v2 nx2) (hf : Fresh wr lx v2) : TI w S vx vh vo cn v2 lh ⟨nx2, au.hit⟩ (w7.setCell ⟨S + 1 + 1 + 1, 0, none⟩ v2) := by
  have kb : ∀ {b : Nat} {cs : List Value} {T : Nat}, Blk wr b cs T → T ≠ 106 → Blk w7 b cs T := fun hb ht => hb.grown hg (fun e => hb.apart h.nx ht e.symm)
  have hht : Row BoE w7 lh au.hit := h.hit.grown hg (by
    cases e : lh.ownBlock with
    | none => exact .inl rfl
    | some g => exact .inr fun e2 => h.hit.apart h.nx (by decide) e e2.symm)
  have hA := kb h.aut (by decide)
  have ho : ∀ g, v2.ownBlock = some g → w.heap.size ≤ g := fun g e => by
    rcases hf g e with h1 | h1
    · exact h.ox g h1
    · exact Nat.le_trans h.md.size h1
  have hm7 : Mod No w w7 := h.md.own (Mod.of_grown (S := fun k => lx.ownBlock = some k) hg fun g e => e) fun k e => h.ox k e
  have hle := h.le
  exact ⟨(kb h.boxA (by decide)).other (a := ⟨S + 1 + 1 + 1, 0, none⟩) (show S ≠ S + 1 + 1 + 1 by omega) _, (kb h.boxC (by decide)).other (a := ⟨S + 1 + 1 + 1, 0, none⟩) (show S + 1 ≠ S + 1 + 1 + 1 by omega) _, (kb h.res (by decide)).other (a := ⟨S + 1 + 1 + 1, 0, none⟩) (show S + 1 + 1 ≠ S + 1 + 1 + 1 by omega) _,
    hA.set 0 v2, hrow.other (a := ⟨S + 1 + 1 + 1, 0, none⟩) (hA.apart hrow (by decide)) _, hht.other (a := ⟨S + 1 + 1 + 1, 0, none⟩) (hA.apart hht (by decide)) _, hm7.setCell (a := ⟨S + 1 + 1 + 1, 0, none⟩) (fun e => absurd e (by simp; omega)) _, ho, h.oh, h.le⟩
theorem TI.moreH {w7 : World} {v2 : Value} {ht2 : List Bool} (h : TI w S vx vh vo cn lx lh au wr) (hg : wr.grownBy w7 lh.ownBlock) (hrow : Row BoE w7 v2 ht2) (hf : Fresh wr lh v2) : TI w S vx vh vo cn lx v2 ⟨au.nx, ht2⟩ (w7.setCell ⟨S + 1 + 1 + 1, 1, none⟩ v2) := by
  have kb : ∀ {b : Nat} {cs : List Value} {T : Nat}, Blk wr b cs T → T ≠ 4 → Blk w7 b cs T := fun hb ht => hb.grown hg (fun e => hb.apart h.hit ht e.symm)
  have hnx : Row R4E w7 lx au.nx := h.nx.grown hg (by
    cases e : lx.ownBlock with
    | none => exact .inl rfl
    | some g => exact .inr fun e2 => h.nx.apart h.hit (by decide) e e2.symm)
  have hA := kb h.aut (by decide)
  have ho : ∀ g, v2.ownBlock = some g → w.heap.size ≤ g := fun g e => by
    rcases hf g e with h1 | h1
    · exact h.oh g h1
    · exact Nat.le_trans h.md.size h1
  have hm7 : Mod No w w7 := h.md.own (Mod.of_grown (S := fun k => lh.ownBlock = some k) hg fun g e => e) fun k e => h.oh k e
  have hle := h.le
  exact ⟨(kb h.boxA (by decide)).other (a := ⟨S + 1 + 1 + 1, 1, none⟩) (show S ≠ S + 1 + 1 + 1 by omega) _, (kb h.boxC (by decide)).other (a := ⟨S + 1 + 1 + 1, 1, none⟩) (show S + 1 ≠ S + 1 + 1 + 1 by omega) _, (kb h.res (by decide)).other (a := ⟨S + 1 + 1 + 1, 1, none⟩) (show S + 1 + 1 ≠ S + 1 + 1 + 1 by omega) _,
    hA.set 1 v2, hnx.other (a := ⟨S + 1 + 1 + 1, 1, none⟩) (hA.apart hnx (by decide)) _, hrow.other (a := ⟨S + 1 + 1 + 1, 1, none⟩) (hA.apart hrow (by decide)) _, hm7.setCell (a := ⟨S + 1 + 1 + 1, 1, none⟩) (fun e => absurd e (by simp; omega)) _, h.ox, ho, h.le⟩
end
/-- The mirror, an element at a time. -/
theorem tog_cons (of xs : List Nat) (rs : List Mir.R4) (hs : List Bool) (x : Nat) (r : Mir.R4) (h : Bool) (a b : M2.Auto) (e : M2.togGo of (x :: xs) (r :: rs) (h :: hs) a = some b) :
    if x < a.nx.length then M2.togGo of xs rs hs a = some b else ∃ Nv : Nat → Nat, (∀ l, l < 4 → of[r4g r l]? = some (Nv l)) ∧ M2.togGo of xs rs hs ⟨a.nx ++ [⟨Nv 0, Nv 1, Nv 2, Nv 3⟩], a.hit ++ [h]⟩ = some b := by
  rw [M2.togGo] at e
  split
  · rename_i hlt
    rw [if_pos hlt] at e
    exact e
  · rename_i hlt
    rw [if_neg hlt] at e
    split at e
    · rename_i p q u v hp hq hu hv
      refine ⟨fun l => match l with | 0 => p | 1 => q | 2 => u | _ => v, fun l hl => ?_, e⟩
      match l, hl with
      | 0, _ => exact hp
      | 1, _ => exact hq
      | 2, _ => exact hu
      | 3, _ => exact hv
    · cases e
end Go.Proofs.YtmbapmbpnnaanabGreatDoor
