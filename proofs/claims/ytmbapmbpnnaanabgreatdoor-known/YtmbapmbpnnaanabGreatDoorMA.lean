import Derived.Test.YtmbapmbpnnaanabGreatDoorLF
import Derived.Deep.MidRow
import Derived.Deep.WholeRow
import Derived.ChangeKeysEq
import Derived.Deep.LoopGhost
import Derived.Deep.CutRange
import Derived.Deep.RegionLaw
namespace Go.Proofs.YtmbapmbpnnaanabGreatDoor
open Go.RowKit
attribute [local go_sem ↓] Go.wp_at_zero Go.wp_at_succ

/-! a whole row laid anew -/
theorem Mod.setRow {S : Nat → Prop} {w w1 : World} (h : Mod S w w1) {g : Nat} (ha : g < w.heap.size → S g) (cs : Array Value) : Mod S w (w1.setRow g cs) :=
  ⟨h.os, h.tape, h.output, by simpa using h.size, fun k hk hn => (setRow_other _ _ _ _ (fun e => hn (by rw [e]; exact ha (by rw [← e]; exact hk)))).trans (h.block k hk hn)⟩
theorem Blk.setRow {w b cs T} (h : Blk w b cs T) (c2 : List Value) : Blk (w.setRow b c2.toArray) b c2 T := setRow_heap w b _ _ T (0, 0) h
theorem Blk.otherRow {w b cs T} (h : Blk w b cs T) {g : Nat} (hne : b ≠ g) (c2 : Array Value) : Blk (w.setRow g c2) b cs T := (setRow_other _ _ _ _ hne).trans h
theorem Row.otherRow {α : Type} {E : Enc α} {w : World} {v : Value} {xs : List α} (h : Row E w v xs) {g : Nat} (hne : v.ownBlock ≠ some g) (c2 : Array Value) : Row E (w.setRow g c2) v xs :=
  h.mod (S := fun k => k = g) ((Mod.refl (fun k => k = g) w).setRow (fun _ => rfl) c2) fun g2 hg e => hne (by rw [hg, e])

/-! hits -/
def hc (h : List Bool) : List Value := (M2.pad60 h).map .bool
theorem pad_len (h : List Bool) : (M2.pad60 h).length = 60 := by simp [M2.pad60]
theorem hc_len (h : List Bool) : (hc h).length = 60 := by simp [hc, pad_len]
theorem pad_id {h : List Bool} (hl : h.length = 60) : M2.pad60 h = h := by
  unfold M2.pad60
  rw [List.take_append_of_le_length (by omega), List.take_of_length_le (by omega)]
theorem BoE.cell' {w : World} {g n cap : Nat} {xs : List Bool} (h : Row BoE w (.slice (some ⟨g, 0, none⟩) n cap) xs) {i : Nat} {x : Bool} (hx : xs[i]? = some x) : w.cell? ⟨g, i, none⟩ = some (.bool x) := by
  have := h.cell i 0 hx (u := .bool x) rfl
  have e : i * BoE.c + 0 = i := by show i * 1 + 0 = i; omega
  rwa [e] at this
def HiE : Enc (List Bool) := ⟨204, 60, hc, hc_len⟩
theorem Tryz.info204 : (Tryz.prog.info? 204).map (fun i => (i.zero, i.size, i.bytes)) = some (some (.agg (hc []).toArray), 60, 60) := by kernel_rfl
theorem Tryz.size140 : (Tryz.prog.info? 204).map (·.size) = some 60 := by kernel_rfl
theorem hc_get {h : List Bool} {i : Nat} {b : Bool} (hb : (M2.pad60 h)[i]? = some b) : (hc h)[i]? = some (.bool b) := by simp [hc, hb]
theorem hc_one (h : List Bool) : ∀ v ∈ hc h, v.oneCell' = true := by
  intro v hv
  obtain ⟨b, _, rfl⟩ := List.mem_map.1 hv
  rfl
theorem hc_zero : (hc []) = List.replicate 60 (.bool false) := rfl
theorem pad_step {h : List Bool} {i : Nat} {b : Bool} (hi : i < 60) (hb : h[i]? = some b) : (hc (h.take i)).set i (.bool b) = hc (h.take (i + 1)) := by
  have hl : i < h.length := (List.getElem?_eq_some_iff.1 hb).1
  unfold hc
  rw [← List.map_set]
  congr 1
  apply List.ext_getElem?
  intro j
  unfold M2.pad60
  rw [List.getElem?_set]
  by_cases hj : i = j
  · subst hj
    rw [if_pos rfl, if_pos (by simp; omega), List.getElem?_take, if_pos hi, List.getElem?_append_left (by simp; omega), List.getElem?_take, if_pos (by omega), hb]
  · rw [if_neg hj, List.getElem?_take, List.getElem?_take]
    by_cases hj6 : j < 60
    · rw [if_pos hj6, if_pos hj6]
      by_cases hji : j < i
      · rw [List.getElem?_append_left (by simp; omega), List.getElem?_append_left (by simp; omega), List.getElem?_take, List.getElem?_take, if_pos hji, if_pos (by omega)]
      · rw [List.getElem?_append_right (by simp; omega), List.getElem?_append_right (by simp; omega), List.getElem?_replicate, List.getElem?_replicate]
        rw [if_pos (by simp; omega), if_pos (by simp; omega)]
    · rw [if_neg hj6, if_neg hj6]
theorem pad_take (h : List Bool) {i : Nat} (hi : 60 ≤ i ∨ h.length ≤ i) : hc (h.take i) = hc h := by
  unfold hc M2.pad60
  congr 1
  apply List.ext_getElem?
  intro j
  rw [List.getElem?_take, List.getElem?_take]
  by_cases hj6 : j < 60
  · rw [if_pos hj6, if_pos hj6]
    rcases hi with hi | hi
    · by_cases hjh : j < h.length
      · rw [List.getElem?_append_left (by simp; omega), List.getElem?_append_left hjh, List.getElem?_take, if_pos (by omega)]
      · rw [List.take_of_length_le (by omega)]
    · rw [List.take_of_length_le hi]
  · rw [if_neg hj6, if_neg hj6]

structure EI (w : World) (g n cap : Nat) (a1 : Option Addr) (n1 c1 : Nat) (hit : List Bool) (i : Nat) (wr : World) : Prop where
  box : Blk wr w.heap.size [Value.slice a1 n1 c1, Value.slice (some ⟨g, 0, none⟩) n cap] 142
  res : Blk wr (w.heap.size + 1) (hc []) 204
  hs : Blk wr (w.heap.size + 1 + 1) (hc (hit.take i)) 204
  row : Row BoE wr (.slice (some ⟨g, 0, none⟩) n cap) hit
  md : Mod No w wr
theorem EI.put {w : World} {g n cap : Nat} {a1 : Option Addr} {n1 c1 : Nat} {hit : List Bool} {i : Nat} {wr : World} (h : EI w g n cap a1 n1 c1 hit i wr) {b : Bool} (hb : (hc (hit.take i)).set i (.bool b) = hc (hit.take (i + 1))) : EI w g n cap a1 n1 c1 hit (i + 1) (wr.setCell ⟨w.heap.size + 1 + 1, i, none⟩ (.bool b)) :=
  ⟨h.box.other (a := ⟨w.heap.size + 1 + 1, i, none⟩) (by simp; omega) _, h.res.other (a := ⟨w.heap.size + 1 + 1, i, none⟩) (by simp) _, by rw [← hb]; exact h.hs.set i _, h.row.other (a := ⟨w.heap.size + 1 + 1, i, none⟩) (h.hs.apart h.row (by decide)) _, h.md.setCell (a := ⟨w.heap.size + 1 + 1, i, none⟩) (fun e => absurd e (by simp; omega)) _⟩

set_option maxHeartbeats 2000000 in
set_option maxRecDepth 100000 in
theorem ofEmpty_any (w : World) (a1 : Option Addr) (n1 c1 : Nat) (vh : Value) (hit : List Bool) (hh : Row BoE w vh hit) (hl0 : 0 < hit.length) (hl : hit.length ≤ 1000000) :
    Calls Tryz.prog 90 #[.agg #[.slice a1 n1 c1, vh]] w fun e w' => e = .returned (.agg (hc hit).toArray) ∧ Mod No w w' := by
  obtain ⟨g, cap, rfl, hg, hcap⟩ := hh.form hl0
  obtain ⟨n, hn⟩ : ∃ n, n = hit.length := ⟨_, rfl⟩
  rw [← hn] at hh hl0 hl hcap
  have HN : Hid (n = hit.length) := hn
  have HH : Hid (Row BoE w (.slice (some ⟨g, 0, none⟩) n cap) hit) := hh
  clear hh
  rw [← hn]
  clear hn
  go_enter Tryz.func90, Tryz.ntmps90
  go_wp2_with fail
  generalize hS : (w.alloc (Obj.cells #[Value.slice a1 n1 c1, Value.slice (some { block := g, off := 0 }) n cap] 142)) = S0
  have hZ : ∀ A B, A = Obj.cells (hc []).toArray 204 → B = Obj.cells (hc []).toArray 204 → EI w g n cap a1 n1 c1 hit 0 ((S0.alloc A).alloc B) := by
    intro A B hA hB
    subst hA hB
    rw [← hS]
    have m : Mod No w (((w.alloc (Obj.cells #[Value.slice a1 n1 c1, Value.slice (some { block := g, off := 0 }) n cap] 142)).alloc (Obj.cells (hc []).toArray 204)).alloc (Obj.cells (hc []).toArray 204)) := (((Mod.refl _ _).alloc _).alloc _).alloc _
    exact ⟨new3_0 w _ _ _, new3_1 w _ _ _, new3_2 w _ _ _, HH.out.no m, m⟩
  have HZ : Hid (EI w g n cap a1 n1 c1 hit 0 _) := hZ _ _ rfl rfl
  clear hZ
  clear hS
  go_loopg [4] 60 (fun gh v4 wr => ∃ i : Nat, v4 = .int .i64 (i : Int) ∧ i ≤ 60 ∧ i ≤ n ∧ gh = 60 - i ∧ EI w g n cap a1 n1 c1 hit i wr)
  case atStart => exact ⟨0, rfl, by omega, by omega, rfl, HZ.out⟩
  case round =>
    obtain ⟨i, rfl, hi6, hin, hgh, hI⟩ := hrel
    have HI : Hid (EI w g n cap a1 n1 c1 hit i wr) := hI
    clear HZ
    by_cases hlt : i < 60 ∧ i < n
    · obtain ⟨b, hb⟩ : ∃ b, hit[i]? = some b := ⟨hit[i]'(by have := HN.out; omega), List.getElem?_eq_getElem _⟩
      have c1' := hI.box.cell 1 rfl
      have ch := BoE.cell' hI.row hb
      obtain ⟨u, hu⟩ : ∃ u, (hc (hit.take i))[i]? = some u := ⟨(hc (hit.take i))[i]'(by rw [hc_len]; omega), List.getElem?_eq_getElem _⟩
      have cu := hI.hs.cell i hu
      have fu := hI.hs.free i
      have hi1 : (i : Int) < 60 := by omega
      have hi2 : (i : Int) < (n : Int) := by omega
      have HS : Hid ((hc (hit.take i)).set i (.bool b) = hc (hit.take (i + 1))) := pad_step hlt.1 hb
      clear hI hb hu
      go_wp2
      go_roundg (60 - (i + 1))
      case measure => omega
      case rel => exact ⟨i + 1, by go_num, by omega, by omega, rfl, HI.out.put HS.out⟩
    · have HT : Hid (hc (hit.take i) = hc hit) := pad_take hit (by have := HN.out; omega)
      have c1' := hI.box.cell 1 rfl
      have hl := hI.hs
      rw [HT.out] at hl
      have hr := hI.res
      have HM : Hid (Mod No w wr) := hI.md
      clear hI
      have hsp : i < 60 ∧ ¬ i < n ∨ ¬ i < 60 := by omega
      rcases hsp with ⟨h6, h7⟩ | h6
      · have h61 : (i : Int) < 60 := by omega
        have h71 : ¬ (i : Int) < (n : Int) := by omega
        go_wp2_with (first | refine wpList_load_row rfl 204 _ rfl (w.heap.size + 1 + 1) rfl 204 (hc hit).toArray (0, 0) _ hl Tryz.underlying204 rfl (by simp [Tryz.size140, hc_len]) ?_ | refine wpList_store_row rfl 204 _ _ rfl (w.heap.size + 1) (hc hit).toArray rfl rfl 204 (hc []).toArray hr (by simp [Tryz.size140, hc_len]) (by simp [hc_len]) (all_oneCell_toArray (hc_one hit)) ?_)
        refine bodyPost_ret (v := .agg (hc hit).toArray) (results_cell_row (p := 2) rfl _ _ (w.heap.size + 1) 204 (hc hit).toArray (0, 0) _ rfl (hr.setRow (hc hit)) Tryz.underlying204 rfl (by simp [Tryz.size140, hc_len])) rfl ⟨rfl, HM.out.setRow (fun e => absurd e (by omega)) _⟩
      · have h61 : ¬ (i : Int) < 60 := by omega
        go_wp2_with (first | refine wpList_load_row rfl 204 _ rfl (w.heap.size + 1 + 1) rfl 204 (hc hit).toArray (0, 0) _ hl Tryz.underlying204 rfl (by simp [Tryz.size140, hc_len]) ?_ | refine wpList_store_row rfl 204 _ _ rfl (w.heap.size + 1) (hc hit).toArray rfl rfl 204 (hc []).toArray hr (by simp [Tryz.size140, hc_len]) (by simp [hc_len]) (all_oneCell_toArray (hc_one hit)) ?_)
        refine bodyPost_ret (v := .agg (hc hit).toArray) (results_cell_row (p := 2) rfl _ _ (w.heap.size + 1) 204 (hc hit).toArray (0, 0) _ rfl (hr.setRow (hc hit)) Tryz.underlying204 rfl (by simp [Tryz.size140, hc_len])) rfl ⟨rfl, HM.out.setRow (fun e => absurd e (by omega)) _⟩
end Go.Proofs.YtmbapmbpnnaanabGreatDoor
namespace Go.Proofs.YtmbapmbpnnaanabGreatDoor
open Go.RowKit
attribute [local go_sem ↓] Go.wp_at_zero Go.wp_at_succ

theorem ahead_len (h : List Bool) (l : Nat) : ∀ (n : Nat) (rs : List Mir.R4) (h' : List Bool), M2.aheadGo h l rs n = some h' → h'.length = n
  | 0, rs, h', e => by rw [M2.aheadGo.eq_def] at e; cases rs <;> (simp at e; subst e; rfl)
  | n + 1, [], h', e => by
    rw [M2.aheadGo] at e
    cases hq : M2.aheadGo h l [] n with
    | none => rw [hq] at e; cases e
    | some x => rw [hq] at e; cases e; simp [ahead_len h l n [] x hq]
  | n + 1, r :: rs, h', e => by
    rw [M2.aheadGo] at e
    split at e
    · cases e
    · split at e
      · cases e
      · cases hq : M2.aheadGo h l rs n with
        | none => rw [hq] at e; cases e
        | some x => rw [hq] at e; cases e; simp [ahead_len h l n rs x hq]
theorem ahead_out (h : List Bool) (l : Nat) : ∀ (n : Nat) (rs : List Mir.R4) (h' : List Bool) (i : Nat), M2.aheadGo h l rs n = some h' → i < n → rs.length ≤ i → h'[i]? = some false
  | 0, rs, h', i, e, hi, _ => by omega
  | n + 1, [], h', i, e, hi, _ => by
    rw [M2.aheadGo] at e
    cases hq : M2.aheadGo h l [] n with
    | none => rw [hq] at e; cases e
    | some x =>
      rw [hq] at e; cases e
      cases i with
      | zero => rfl
      | succ i => simpa using ahead_out h l n [] x i hq (by omega) (by simp)
  | n + 1, r :: rs, h', i, e, hi, hr => by
    rw [M2.aheadGo] at e
    split at e
    · cases e
    · split at e
      · cases e
      · cases hq : M2.aheadGo h l rs n with
        | none => rw [hq] at e; cases e
        | some x =>
          rw [hq] at e; cases e
          cases i with
          | zero => simp at hr
          | succ i => simpa using ahead_out h l n rs x i hq (by omega) (by simpa using hr)
theorem ahead_in (h : List Bool) (l : Nat) : ∀ (n : Nat) (rs : List Mir.R4) (h' : List Bool) (i : Nat) (r : Mir.R4), M2.aheadGo h l rs n = some h' → i < n → rs[i]? = some r → ∃ t b, r.get l = some t ∧ h[t]? = some b ∧ h'[i]? = some b
  | 0, rs, h', i, r, e, hi, _ => by omega
  | n + 1, [], h', i, r, e, hi, hr => by simp at hr
  | n + 1, r0 :: rs, h', i, r, e, hi, hr => by
    rw [M2.aheadGo] at e
    split at e
    · cases e
    · rename_i t ht
      split at e
      · cases e
      · rename_i b hb
        cases hq : M2.aheadGo h l rs n with
        | none => rw [hq] at e; cases e
        | some x =>
          rw [hq] at e; cases e
          cases i with
          | zero => simp at hr; subst hr; exact ⟨t, b, ht, hb, rfl⟩
          | succ i => simpa using ahead_in h l n rs x i r hq (by omega) (by simpa using hr)
theorem hc_rest {h : List Bool} {i : Nat} (hl : h.length = 60) (hf : ∀ j, i ≤ j → j < 60 → h[j]? = some false) : hc (h.take i) = hc h := by
  unfold hc
  congr 1
  rw [pad_id hl]
  unfold M2.pad60
  apply List.ext_getElem?
  intro j
  rw [List.getElem?_take]
  by_cases hj : j < 60
  · rw [if_pos hj]
    by_cases hji : j < i
    · rw [List.getElem?_append_left (by simp; omega), List.getElem?_take, if_pos hji]
    · rw [List.getElem?_append_right (by simp; omega), List.getElem?_replicate, if_pos (by simp; omega), hf j (by omega) hj]
  · rw [if_neg hj, List.getElem?_eq_none (by omega)]

theorem r4c_get' (r : Mir.R4) (l : Nat) (hl : l < 4) : (R4E.f r)[l]? = (r.get l).map fun t => .int .i64 (t : Int) := by
  match l, hl with
  | 0, _ => rfl
  | 1, _ => rfl
  | 2, _ => rfl
  | 3, _ => rfl
structure HI (w : World) (vx vh : Value) (nx : List Mir.R4) (h h' : List Bool) (i : Nat) (wr : World) : Prop where
  box : Blk wr w.heap.size [vx, vh] 142
  old : Blk wr (w.heap.size + 1) (hc h) 204
  res : Blk wr (w.heap.size + 1 + 1) (hc []) 204
  hs : Blk wr (w.heap.size + 1 + 1 + 1) (hc (h'.take i)) 204
  row : Row R4E wr vx nx
  md : Mod No w wr
theorem HI.put {w : World} {vx vh : Value} {nx : List Mir.R4} {hh h' : List Bool} {i : Nat} {wr : World} (h : HI w vx vh nx hh h' i wr) {b : Bool} (hb : (hc (h'.take i)).set i (.bool b) = hc (h'.take (i + 1))) : HI w vx vh nx hh h' (i + 1) (wr.setCell ⟨w.heap.size + 1 + 1 + 1, i, none⟩ (.bool b)) :=
  ⟨h.box.other (a := ⟨w.heap.size + 1 + 1 + 1, i, none⟩) (by simp; omega) _, h.old.other (a := ⟨w.heap.size + 1 + 1 + 1, i, none⟩) (by simp) _, h.res.other (a := ⟨w.heap.size + 1 + 1 + 1, i, none⟩) (by simp) _, by rw [← hb]; exact h.hs.set i _, h.row.other (a := ⟨w.heap.size + 1 + 1 + 1, i, none⟩) (h.hs.apart h.row (by decide)) _, h.md.setCell (a := ⟨w.heap.size + 1 + 1 + 1, i, none⟩) (fun e => absurd e (by simp; omega)) _⟩
set_option maxHeartbeats 2000000 in
set_option maxRecDepth 100000 in
theorem ahead_any (w : World) (vx : Value) (a2 : Option Addr) (n2 c2 : Nat) (nx : List Mir.R4) (h h' : List Bool) (l : Nat) (hx : Row R4E w vx nx) (hl : l < 4) (h60 : h.length = 60) (hl0 : 0 < nx.length) (hl1 : nx.length ≤ 1000000) (hM : M2.aheadGo h l nx 60 = some h') :
    Calls Tryz.prog 91 #[.agg #[vx, .slice a2 n2 c2], .agg (hc h).toArray, .int .i64 (l : Int)] w fun e w' => e = .returned (.agg (hc h').toArray) ∧ Mod No w w' := by
  obtain ⟨g, cap, rfl, hg, hcap⟩ := hx.form hl0
  obtain ⟨n, hn⟩ : ∃ n, n = nx.length := ⟨_, rfl⟩
  rw [← hn] at hx hl0 hl1 hcap
  have HN : Hid (n = nx.length) := hn
  have HH : Hid (Row R4E w (.slice (some ⟨g, 0, none⟩) n cap) nx) := hx
  have H6 : Hid (h'.length = 60) := ahead_len h l 60 nx h' hM
  have HA : Hid (∀ i r, i < 60 → nx[i]? = some r → ∃ t b, r.get l = some t ∧ h[t]? = some b ∧ h'[i]? = some b) := fun i r hi hr => ahead_in h l 60 nx h' i r hM hi hr
  have HO : Hid (∀ i, i < 60 → nx.length ≤ i → h'[i]? = some false) := fun i hi hr => ahead_out h l 60 nx h' i hM hi hr
  have HQ : Hid (h.length = 60) := h60
  clear hx hM h60
  rw [← hn]
  clear hn
  go_enter Tryz.func91, Tryz.ntmps91
  go_wp2_with fail
  generalize hS : ((w.alloc (Obj.cells #[Value.slice (some { block := g, off := 0 }) n cap, .slice a2 n2 c2] 142)).alloc (Obj.cells (hc h).toArray 204)) = S0
  have hZ : ∀ A B, A = Obj.cells (hc []).toArray 204 → B = Obj.cells (hc []).toArray 204 → HI w (.slice (some ⟨g, 0, none⟩) n cap) (.slice a2 n2 c2) nx h h' 0 ((S0.alloc A).alloc B) := by
    intro A B hA hB
    subst hA hB
    rw [← hS]
    have m : Mod No w ((((w.alloc (Obj.cells #[Value.slice (some { block := g, off := 0 }) n cap, .slice a2 n2 c2] 142)).alloc (Obj.cells (hc h).toArray 204)).alloc (Obj.cells (hc []).toArray 204)).alloc (Obj.cells (hc []).toArray 204)) := ((((Mod.refl _ _).alloc _).alloc _).alloc _).alloc _
    have q := new4 w (Obj.cells #[Value.slice (some { block := g, off := 0 }) n cap, .slice a2 n2 c2] 142) (Obj.cells (hc h).toArray 204) (Obj.cells (hc []).toArray 204) (Obj.cells (hc []).toArray 204)
    exact ⟨q.1, q.2.1, q.2.2.1, q.2.2.2, HH.out.no m, m⟩
  have HZ : Hid (HI w (.slice (some ⟨g, 0, none⟩) n cap) (.slice a2 n2 c2) nx h h' 0 _) := hZ _ _ rfl rfl
  clear hZ
  clear hS
  go_loopg [8] 60 (fun gh v8 wr => ∃ i : Nat, v8 = .int .i64 (i : Int) ∧ i ≤ 60 ∧ i ≤ n ∧ gh = 60 - i ∧ HI w (.slice (some ⟨g, 0, none⟩) n cap) (.slice a2 n2 c2) nx h h' i wr)
  case atStart => exact ⟨0, rfl, by omega, by omega, rfl, HZ.out⟩
  case round =>
    obtain ⟨i, rfl, hi6, hin, hgh, hI⟩ := hrel
    have HII : Hid (HI w (.slice (some ⟨g, 0, none⟩) n cap) (.slice a2 n2 c2) nx h h' i wr) := hI
    clear HZ
    by_cases hlt : i < 60 ∧ i < n
    · obtain ⟨r, hr⟩ : ∃ r, nx[i]? = some r := ⟨nx[i]'(by have := HN.out; omega), List.getElem?_eq_getElem _⟩
      obtain ⟨t, b, ht, hb, hb'⟩ := HA.out i r hlt.1 hr
      have ht6 : t < 60 := by have := (List.getElem?_eq_some_iff.1 hb).1; rw [HQ.out] at this; exact this
      have c1' := hI.box.cell 0 rfl
      have cr : wr.cell? ⟨g, i * 4 + l, none⟩ = some (.int .i64 (t : Int)) := by
        have q := r4c_get' r l hl
        rw [ht] at q
        exact hI.row.cell i l hr q
      have co : wr.cell? ⟨w.heap.size + 1, t, none⟩ = some (.bool b) := hI.old.cell t (hc_get (by rw [pad_id HQ.out]; exact hb))
      obtain ⟨u, hu⟩ : ∃ u, (hc (h'.take i))[i]? = some u := ⟨(hc (h'.take i))[i]'(by rw [hc_len]; omega), List.getElem?_eq_getElem _⟩
      have cu := hI.hs.cell i hu
      have fu := hI.hs.free i
      have hi1 : (i : Int) < 60 := by omega
      have hi2 : (i : Int) < (n : Int) := by omega
      have hi3 : (l : Int) < 4 := by omega
      have hi4 : (t : Int) < 60 := by omega
      have HS : Hid ((hc (h'.take i)).set i (.bool b) = hc (h'.take (i + 1))) := pad_step hlt.1 hb'
      clear hI hb hu hr ht hb'
      go_wp2
      go_roundg (60 - (i + 1))
      case measure => omega
      case rel => exact ⟨i + 1, by go_num, by omega, by omega, rfl, HII.out.put HS.out⟩
    · have HT : Hid (hc (h'.take i) = hc h') := hc_rest H6.out (fun j hj hj6 => HO.out j hj6 (by have := HN.out; omega))
      have c1' := hI.box.cell 0 rfl
      have hl := hI.hs
      rw [HT.out] at hl
      have hr := hI.res
      have HM : Hid (Mod No w wr) := hI.md
      clear hI
      have hsp : i < 60 ∧ ¬ i < n ∨ ¬ i < 60 := by omega
      rcases hsp with ⟨h6, h7⟩ | h6
      · have h61 : (i : Int) < 60 := by omega
        have h71 : ¬ (i : Int) < (n : Int) := by omega
        go_wp2_with (first | refine wpList_load_row rfl 204 _ rfl (w.heap.size + 1 + 1 + 1) rfl 204 (hc h').toArray (0, 0) _ hl Tryz.underlying204 rfl (by simp [Tryz.size140, hc_len]) ?_ | refine wpList_store_row rfl 204 _ _ rfl (w.heap.size + 1 + 1) (hc h').toArray rfl rfl 204 (hc []).toArray hr (by simp [Tryz.size140, hc_len]) (by simp [hc_len]) (all_oneCell_toArray (hc_one h')) ?_)
        refine bodyPost_ret (v := .agg (hc h').toArray) (results_cell_row (p := 6) rfl _ _ (w.heap.size + 1 + 1) 204 (hc h').toArray (0, 0) _ rfl (hr.setRow (hc h')) Tryz.underlying204 rfl (by simp [Tryz.size140, hc_len])) rfl ⟨rfl, HM.out.setRow (fun e => absurd e (by omega)) _⟩
      · have h61 : ¬ (i : Int) < 60 := by omega
        go_wp2_with (first | refine wpList_load_row rfl 204 _ rfl (w.heap.size + 1 + 1 + 1) rfl 204 (hc h').toArray (0, 0) _ hl Tryz.underlying204 rfl (by simp [Tryz.size140, hc_len]) ?_ | refine wpList_store_row rfl 204 _ _ rfl (w.heap.size + 1 + 1) (hc h').toArray rfl rfl 204 (hc []).toArray hr (by simp [Tryz.size140, hc_len]) (by simp [hc_len]) (all_oneCell_toArray (hc_one h')) ?_)
        refine bodyPost_ret (v := .agg (hc h').toArray) (results_cell_row (p := 6) rfl _ _ (w.heap.size + 1 + 1) 204 (hc h').toArray (0, 0) _ rfl (hr.setRow (hc h')) Tryz.underlying204 rfl (by simp [Tryz.size140, hc_len])) rfl ⟨rfl, HM.out.setRow (fun e => absurd e (by omega)) _⟩
end Go.Proofs.YtmbapmbpnnaanabGreatDoor
