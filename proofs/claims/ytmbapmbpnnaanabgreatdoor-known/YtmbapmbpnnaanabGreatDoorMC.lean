import Derived.Test.YtmbapmbpnnaanabGreatDoorMA
import Derived.Great.BuildSlice
namespace Go.Proofs.YtmbapmbpnnaanabGreatDoor
open Go.RowKit

/-! many cells at once, by rules on the whole operation -/
def cellsAt (w : World) (b o n : Nat) : List Value := (List.range n).map fun j => (w.cell? ⟨b, o + j, none⟩).getD undef
def allAt (w : World) (b o n : Nat) : Bool := (List.range n).all fun j => (w.cell? ⟨b, o + j, none⟩).isSome
def pb : Value → Nat
  | .pointer (some a) => a.block
  | _ => 0
def po : Value → Nat
  | .pointer (some a) => a.off
  | _ => 0
def ag : Value → Array Value
  | .agg c => c
  | _ => #[]
theorem pb_eq (a : Addr) : pb (.pointer (some a)) = a.block := rfl
theorem po_eq (a : Addr) : po (.pointer (some a)) = a.off := rfl
theorem ag_eq (c : Array Value) : ag (.agg c) = c := rfl
theorem cellsAt_len (w : World) (b o n : Nat) : (cellsAt w b o n).length = n := by simp [cellsAt]
theorem cellsAt_range {w : World} {b o n : Nat} (h : allAt w b o n = true) : w.rangeAt b o (cellsAt w b o n) := by
  intro j v hv
  have hj : j < n := by have := (List.getElem?_eq_some_iff.1 hv).1; rwa [cellsAt_len] at this
  have hs := (List.all_eq_true.1 h) j (by simpa using hj)
  obtain ⟨u, hu⟩ := Option.isSome_iff_exists.1 hs
  simp [cellsAt, hj, hu] at hv
  rw [hu, hv]
theorem cellsAt_of {w : World} {b o : Nat} {cs : List Value} (h : w.rangeAt b o cs) : cellsAt w b o cs.length = cs ∧ allAt w b o cs.length = true := by
  refine ⟨?_, ?_⟩
  · apply List.ext_getElem?
    intro j
    by_cases hj : j < cs.length
    · have := h j cs[j] (List.getElem?_eq_getElem hj)
      simp [cellsAt, hj, this]
    · rw [List.getElem?_eq_none (by rw [cellsAt_len]; omega), List.getElem?_eq_none (by omega)]
  · refine List.all_eq_true.2 fun j hj => ?_
    have hj' : j < cs.length := by simpa using hj
    rw [h j cs[j] (List.getElem?_eq_getElem hj')]
    rfl
theorem cellsAt_drew (w : World) (b o n : Nat) : cellsAt w.drew b o n = cellsAt w b o n := rfl
theorem allAt_drew (w : World) (b o n : Nat) : allAt w.drew b o n = allAt w b o n := rfl
theorem Blk.range {w b cs T} (h : Blk w b cs T) : w.rangeAt b 0 cs := fun j v hv => by rw [Nat.zero_add]; exact h.cell j hv
theorem Row.range {α : Type} {E : Enc α} {w : World} {g n cap : Nat} {xs : List α} (h : Row E w (.slice (some ⟨g, 0, none⟩) n cap) xs) {i : Nat} {x : α} (hx : xs[i]? = some x) : w.rangeAt g (i * E.c) (E.f x) := fun j _ hv => h.cell i j hx hv
theorem range_mod {S : Nat → Prop} {w w' : World} {b o : Nat} {cs : List Value} (h : w.rangeAt b o cs) (hm : Mod S w w') (hb : b < w.heap.size) (hn : ¬ S b) : w'.rangeAt b o cs := fun j v hv => by
  have := h j v hv
  have e := hm.block b hb hn
  unfold World.cell? at this ⊢
  rw [e]; exact this

def okAg (n : Nat) : Value → Bool
  | .agg c => c.size == n && c.all (·.oneCell')
  | _ => false
theorem okAg_of {n : Nat} {v : Value} (h : okAg n v = true) : v = .agg (ag v) ∧ (ag v).size = n ∧ (ag v).all (·.oneCell') = true := by
  unfold okAg at h
  split at h
  · rename_i c
    rw [Bool.and_eq_true] at h
    exact ⟨rfl, (by simpa using h.1 : c.size = n), h.2⟩
  · cases h
theorem wide_load {P : Program} {T n : Nat} {d : TypeDesc} (hu : P.underlying T = some d) (hd : d.isRow = true) (hi : (P.info? T).map (·.size) = some n)
    {dst : Option Tmp} {x : Operand} {ty : TypeId} {pos : String} {after : Array Edge} {guard : Option (Nat × Bool)} {a : Act} {w : World} {K : Act → World → Prop} {Q : Exit → Act → World → Prop}
    (hx : a.eval x = .pointer (some ⟨pb (a.eval x), po (a.eval x), none⟩)) (hA : allAt w (pb (a.eval x)) (po (a.eval x)) n = true) :
    Oper.wp P { dst := dst, op := .load T x, type := ty, pos := pos, after := after, guard := guard } a w K Q = K (a.put dst (.agg (cellsAt w (pb (a.eval x)) (po (a.eval x)) n).toArray)) w := by
  have hr := run_loadVar_mid (P := P) w (pb (a.eval x)) (po (a.eval x)) T (cellsAt w (pb (a.eval x)) (po (a.eval x)) n) d (cellsAt_range hA) hu hd (by rw [cellsAt_len]; exact hi)
  generalize pb (a.eval x) = b at *
  generalize po (a.eval x) = o at *
  unfold Oper.wp execOp
  simp only [hx, Instr.loadAt, Instr.sureAddr, Sem.run_bind, Sem.run_pure, Result.andThen_ok, hr]
  rfl
theorem wide_build {P : Program} {T e n : Nat} {ie : TypeInfo} {z : Value} (hu : P.underlying T = some (.slice e)) (hie : P.info? e = some ie) (hz : ie.zero = some z) (hn : ie.size = n) (h0 : 0 < n) (h1 : n ≤ 1000)
    {dst : Option Tmp} {x : Operand} {ty : TypeId} {pos : String} {after : Array Edge} {guard : Option (Nat × Bool)} {a : Act} {w : World} {K : Act → World → Prop} {Q : Exit → Act → World → Prop}
    (hx1 : okAg n (a.eval x) = true) :
    Oper.wp P { dst := dst, op := .buildSlice T 1 #[(0, x)], type := ty, pos := pos, after := after, guard := guard } a w K Q = K (a.put dst (.slice (some ⟨w.heap.size, 0, none⟩) 1 1)) (w.alloc (.cells (ag (a.eval x)) e)) := by
  obtain ⟨hx, hs, -⟩ := okAg_of hx1
  clear hx1
  generalize hc : ag (a.eval x) = c at *
  subst hn
  have hf := Great.fill_whole (s := ie.size) h0 [.agg c] ((Array.range (1 * ie.size)).map (z.cells[· % z.cells.size]!)) (by intro v hv; simp at hv; rw [hv]; exact hs) (by simp)
  have hb := run_buildSlice (P := P) w T e 1 #[(0, .agg c)] c ie z hu hie hz (by omega) (by omega) (by
    simp only [List.zipIdx_cons, List.zipIdx_nil, List.map_cons, List.map_nil, List.flatMap_cons, List.flatMap_nil, List.append_nil] at hf
    rw [show (Value.agg c).cells.toList.toArray = c by simp [Value.cells]] at hf
    exact hf)
  unfold Oper.wp execOp
  simp only [List.map_toArray, List.map_cons, List.map_nil, hx, Sem.run_bind, hb, Result.andThen_ok]
  rfl
def isRowB (w : World) (b n : Nat) : Bool := match w.heap[b]? with
  | some (.cells c _ (0, 0)) => c.size == n
  | _ => false
theorem isRow_of {w b cs T} (h : Blk w b cs T) : isRowB w b cs.length = true := by simp [isRowB, show w.heap[b]? = _ from h]
theorem isRow_new (w : World) (c : Array Value) (t n : Nat) (hc : c.size = n) : isRowB (w.alloc (.cells c t)) w.heap.size n = true := by
  subst hc
  have : Blk (w.alloc (.cells c t)) w.heap.size c.toList t := by simpa using Blk.new w c.toList t
  have := isRow_of this
  simpa using this
theorem wide_store {P : Program} {T n : Nat} (hi : (P.info? T).map (·.size) = some n)
    {dst : Option Tmp} {x y : Operand} {ty : TypeId} {pos : String} {after : Array Edge} {guard : Option (Nat × Bool)} {a : Act} {w : World} {K : Act → World → Prop} {Q : Exit → Act → World → Prop}
    (hx : a.eval x = .pointer (some ⟨pb (a.eval x), 0, none⟩)) (hy1 : okAg n (a.eval y) = true) (hr : isRowB w (pb (a.eval x)) n = true) :
    Oper.wp P { dst := dst, op := .store T x y, type := ty, pos := pos, after := after, guard := guard } a w K Q = K (a.put dst undef) (w.setRow (pb (a.eval x)) (ag (a.eval y))) := by
  obtain ⟨hy, hs, h1⟩ := okAg_of hy1
  clear hy1
  generalize pb (a.eval x) = b at *
  generalize ag (a.eval y) = c at *
  unfold isRowB at hr
  split at hr
  · rename_i old t hw
    have hr2 := run_storeVar_row (P := P) w b t T old c hw (by rw [hs]; exact hi) (by have h2 : old.size = n := (by simpa using hr); omega) h1
    unfold Oper.wp execOp
    simp only [hx, hy, Instr.storeAt, Instr.sureAddr, Sem.run_bind, Sem.run_pure, Result.andThen_ok, hr2]
    rfl
  · cases hr
theorem wide_alloc {P : Program} {T : Nat} {z : Value} (hz : ∀ w, (zeroValue T).run P w = .ok z w)
    {dst : Option Tmp} {ty : TypeId} {pos : String} {after : Array Edge} {guard : Option (Nat × Bool)} {a : Act} {w : World} {K : Act → World → Prop} {Q : Exit → Act → World → Prop} :
    Oper.wp P { dst := dst, op := .alloc T, type := ty, pos := pos, after := after, guard := guard } a w K Q = K (a.put dst (.pointer (some ⟨w.heap.size, 0, none⟩))) (w.alloc (.cells z.cells T)) := by
  unfold Oper.wp execOp
  simp [Instr.alloc, newVar, newRow, hz]
  rfl
theorem cells_new (w : World) (c : List Value) (t n : Nat) (hc : c.length = n) : cellsAt (w.alloc (.cells c.toArray t)) w.heap.size 0 n = c := by subst hc; exact (cellsAt_of (Blk.new w c t).range).1
theorem all_new (w : World) (c : List Value) (t n : Nat) (hc : c.length = n) : allAt (w.alloc (.cells c.toArray t)) w.heap.size 0 n = true := by subst hc; exact (cellsAt_of (Blk.new w c t).range).2
theorem cellsAt_alloc {w : World} {b o n : Nat} (h : allAt w b o n = true) (A : Obj) : cellsAt (w.alloc A) b o n = cellsAt w b o n := by
  have := World.rangeAt_alloc (cellsAt_range h) A
  have := (cellsAt_of this).1
  rwa [cellsAt_len] at this
theorem allAt_alloc {w : World} {b o n : Nat} (h : allAt w b o n = true) (A : Obj) : allAt (w.alloc A) b o n = true := by
  have := World.rangeAt_alloc (cellsAt_range h) A
  have := (cellsAt_of this).2
  rwa [cellsAt_len] at this
theorem setRow_new (w : World) (c c' : Array Value) (t : TypeId) : (w.alloc (.cells c t)).setRow w.heap.size c' = w.alloc (.cells c' t) := World.setRow_alloc_new w c c' t
theorem Tryz.load204 {dst : Option Tmp} {x : Operand} {ty : TypeId} {pos : String} {after : Array Edge} {guard : Option (Nat × Bool)} {a : Act} {w : World} {K : Act → World → Prop} {Q : Exit → Act → World → Prop}
    (hx : a.eval x = .pointer (some ⟨pb (a.eval x), po (a.eval x), none⟩)) (hA : allAt w (pb (a.eval x)) (po (a.eval x)) 60 = true) :
    Oper.wp Tryz.prog { dst := dst, op := .load 204 x, type := ty, pos := pos, after := after, guard := guard } a w K Q = K (a.put dst (.agg (cellsAt w (pb (a.eval x)) (po (a.eval x)) 60).toArray)) w := wide_load Tryz.underlying204 rfl Tryz.size140 hx hA
theorem Tryz.build85 {dst : Option Tmp} {x : Operand} {ty : TypeId} {pos : String} {after : Array Edge} {guard : Option (Nat × Bool)} {a : Act} {w : World} {K : Act → World → Prop} {Q : Exit → Act → World → Prop}
    (hx : okAg 60 (a.eval x) = true) :
    Oper.wp Tryz.prog { dst := dst, op := .buildSlice 85 1 #[(0, x)], type := ty, pos := pos, after := after, guard := guard } a w K Q = K (a.put dst (.slice (some ⟨w.heap.size, 0, none⟩) 1 1)) (w.alloc (.cells (ag (a.eval x)) 204)) := by
  obtain ⟨i0, hinf, hz0, hz1, hz2⟩ := info_parts Tryz.info204
  exact wide_build Tryz.underlying85 hinf hz0 hz1 (by omega) (by omega) hx

theorem Tryz.store204 {dst : Option Tmp} {x y : Operand} {ty : TypeId} {pos : String} {after : Array Edge} {guard : Option (Nat × Bool)} {a : Act} {w : World} {K : Act → World → Prop} {Q : Exit → Act → World → Prop}
    (hx : a.eval x = .pointer (some ⟨pb (a.eval x), 0, none⟩)) (hy : okAg 60 (a.eval y) = true) (hr : isRowB w (pb (a.eval x)) 60 = true) :
    Oper.wp Tryz.prog { dst := dst, op := .store 204 x y, type := ty, pos := pos, after := after, guard := guard } a w K Q = K (a.put dst undef) (w.setRow (pb (a.eval x)) (ag (a.eval y))) := wide_store Tryz.size140 hx hy hr
theorem Tryz.alloc204 {dst : Option Tmp} {ty : TypeId} {pos : String} {after : Array Edge} {guard : Option (Nat × Bool)} {a : Act} {w : World} {K : Act → World → Prop} {Q : Exit → Act → World → Prop} :
    Oper.wp Tryz.prog { dst := dst, op := .alloc 204, type := ty, pos := pos, after := after, guard := guard } a w K Q = K (a.put dst (.pointer (some ⟨w.heap.size, 0, none⟩))) (w.alloc (.cells (hc []).toArray 204)) := wide_alloc (z := .agg (hc []).toArray) Tryz.zeroValue204
theorem hc_size (h : List Bool) : (hc h).toArray.size = 60 := by simp [hc_len]
theorem hc_all' (h : List Bool) : (hc h).all (·.oneCell') = true := List.all_eq_true.2 (hc_one h)
theorem hc_ok (h : List Bool) : okAg 60 (.agg (hc h).toArray) = true := by
  unfold okAg
  rw [Bool.and_eq_true]
  exact ⟨by simp [hc_len], all_oneCell_toArray (hc_one h)⟩
theorem isRow_hc (w : World) (h : List Bool) : isRowB (w.alloc (.cells (hc h).toArray 204)) w.heap.size 60 = true := isRow_new w _ _ _ (hc_size h)
theorem hc_all (h : List Bool) : (hc h).toArray.all (·.oneCell') = true := all_oneCell_toArray (hc_one h)

/-! two hits compared -/
theorem Tryz.plain4 : Tryz.prog.plainKey 4 = true := by kernel_rfl
theorem Tryz.cells4 : Tryz.prog.cellsOf 4 = 1 := by kernel_rfl
theorem equal_bool (d : Nat) (a b : Bool) (w : World) : (Op.equalIn (d + 1) 4 (.bool a) (.bool b)).run Tryz.prog w = .ok (a == b) w := by
  simp [Op.equalIn, run_underlying Tryz.underlying4]
theorem eqItems_bools (d : Nat) (xs ys : List Bool) (w : World) : ∀ is : List Nat, (∀ i ∈ is, i < xs.length ∧ i < ys.length) → (Op.eqItems (d + 1) 4 1 (xs.map Value.bool).toArray (ys.map Value.bool).toArray is).run Tryz.prog w = .ok (is.all fun i => xs[i]? == ys[i]?) w
  | [], _ => by simp [Op.eqItems]
  | i :: is, h => by
    obtain ⟨h1, h2⟩ := h i (by simp)
    have p1 := run_part_plain (P := Tryz.prog) w Tryz.plain4 (xs := (xs.map Value.bool).toArray) (off := i * 1) (v := .bool xs[i]) (by simp [h1])
    have p2 := run_part_plain (P := Tryz.prog) w Tryz.plain4 (xs := (ys.map Value.bool).toArray) (off := i * 1) (v := .bool ys[i]) (by simp [h2])
    have ih := eqItems_bools d xs ys w is (fun j hj => h j (by simp [hj]))
    simp only [Op.eqItems, Sem.run_bind, p1, p2, Result.andThen_ok, equal_bool]
    rw [List.all_cons, List.getElem?_eq_getElem h1, List.getElem?_eq_getElem h2]
    cases hq : (xs[i] == ys[i])
    · have : (some xs[i] == some ys[i]) = false := by simpa using hq
      simp [this]
    · have : (some xs[i] == some ys[i]) = true := by simpa using hq
      simp only [this, Bool.not_true, Bool.false_eq_true, if_false, Bool.true_and]
      exact ih
theorem all_eq_iff {α : Type} [DecidableEq α] (xs ys : List α) (n : Nat) (hx : xs.length = n) (hy : ys.length = n) : ((List.range n).all fun i => xs[i]? == ys[i]?) = decide (xs = ys) := by
  rw [Bool.eq_iff_iff, List.all_eq_true, decide_eq_true_iff]
  constructor
  · intro h
    apply List.ext_getElem?
    intro i
    by_cases hi : i < n
    · have := h i (by simpa using hi)
      simpa using this
    · rw [List.getElem?_eq_none (by omega), List.getElem?_eq_none (by omega)]
  · rintro rfl i _
    simp
theorem eq_hits (x h : List Bool) (hx : x.length = 60) (hh : h.length = 60) (w : World) : (Op.equalIn 10000 204 (.agg (hc x).toArray) (.agg (hc h).toArray)).run Tryz.prog w = .ok (decide (x = h)) w := by
  obtain ⟨i0, hinf, -⟩ := info_parts Tryz.info4
  rw [run_equalIn_array w 9999 _ _ Tryz.underlying204 hinf, Tryz.cells4]
  unfold hc
  rw [pad_id hx, pad_id hh, eqItems_bools 9998 x h w (List.range 60) (fun i hi => by have := List.mem_range.1 hi; omega), all_eq_iff x h 60 hx hh]

/-! kinds in a block -/
attribute [local go_sem ↓] Go.wp_at_zero Go.wp_at_succ
set_option maxHeartbeats 2000000 in
theorem isHitK_any (w : World) (a1 a2 : Option Addr) (n1 c1 n2 c2 : Nat) (kh : Value) (k : M2.Kinds) (kind st : Nat) (hh : Row HiE w kh k.hits) (h6 : ∀ h ∈ k.hits, h.length = 60) (hk : kind < k.hits.length) (hs : st < 60) (hl : k.hits.length ≤ 1000) :
    Calls Tryz.prog 93 #[.agg #[.slice a1 n1 c1, .slice a2 n2 c2, kh], .int .i64 (kind : Int), .int .i64 (st : Int)] w fun e w' => e = .returned (.bool (M2.isHitM k kind st)) ∧ Mod No w w' := by
  obtain ⟨g, cap, rfl, hg, hcap⟩ := hh.form (by omega)
  obtain ⟨h, hhk⟩ : ∃ h, k.hits[kind]? = some h := ⟨k.hits[kind], List.getElem?_eq_getElem hk⟩
  have hl6 := h6 h (List.mem_of_getElem? hhk)
  obtain ⟨b, hb⟩ : ∃ b, h[st]? = some b := ⟨h[st]'(by omega), List.getElem?_eq_getElem _⟩
  have hv : M2.isHitM k kind st = b := by
    unfold M2.isHitM
    simp [List.getD_eq_getElem?_getD, hhk, hb]
  rw [hv]
  have q : w.cell? ⟨g, kind * 60 + st, none⟩ = some (.bool b) := hh.cell kind st hhk (hc_get (by rw [pad_id hl6]; exact hb))
  obtain ⟨n, hn⟩ : ∃ n, n = k.hits.length := ⟨_, rfl⟩
  rw [← hn] at hcap hk hl ⊢
  have e1 : decide ((kind : Int) < 0) = false := decide_eq_false (by omega)
  have e2 : decide ((n : Int) ≤ (kind : Int)) = false := decide_eq_false (by omega)
  have e3 : decide ((st : Int) < 0) = false := decide_eq_false (by omega)
  have e4 : decide ((60 : Int) ≤ (st : Int)) = false := decide_eq_false (by omega)
  have hki : (kind : Int) < (n : Int) := by omega
  have hsi : (st : Int) < 60 := by omega
  have hgw : ¬ g = w.heap.size := by omega
  clear hh h6 hhk hb hv hn
  go_enter Tryz.func93, Tryz.ntmps93
  go_wp2
  go_ret
  exact ⟨rfl, (Mod.refl _ _).alloc _⟩
end Go.Proofs.YtmbapmbpnnaanabGreatDoor
namespace Go.Proofs.YtmbapmbpnnaanabGreatDoor
open Go.RowKit
attribute [local go_sem ↓] Go.wp_at_zero Go.wp_at_succ Tryz.load204 Tryz.store204 Tryz.alloc204 Tryz.build85
attribute [local go_sem] pb_eq po_eq ag_eq cellsAt_drew allAt_drew isRow_new cells_new all_new cellsAt_alloc allAt_alloc setRow_new hc_len hc_size hc_ok isRow_hc

theorem find_le (h : List Bool) : ∀ (hs : List (List Bool)) (i : Nat), i ≤ M2.find hs h i ∧ M2.find hs h i ≤ i + hs.length
  | [], i => by simp [M2.find]
  | x :: xs, i => by
    rw [M2.find]
    split
    · simp
    · have := find_le h xs (i + 1)
      simp; omega
/-- Where 'find' stands: the first i are none of them it. -/
theorem find_hit (h : List Bool) : ∀ (hs : List (List Bool)) (i j : Nat), j < hs.length → (∀ q, q < j → hs[q]? ≠ some h) → hs[j]? = some h → M2.find hs h i = i + j
  | [], i, j, hj, _, _ => by simp at hj
  | x :: xs, i, 0, hj, _, he => by
    rw [M2.find]
    simp at he
    rw [if_pos he]; omega
  | x :: xs, i, j + 1, hj, hn, he => by
    rw [M2.find]
    have h0 := hn 0 (by omega)
    simp at h0
    rw [if_neg h0, find_hit h xs (i + 1) j (by simpa using hj) (fun q hq => by have := hn (q + 1) (by omega); simpa using this) (by simpa using he)]
    omega
theorem find_miss (h : List Bool) : ∀ (hs : List (List Bool)) (i : Nat), (∀ q, q < hs.length → hs[q]? ≠ some h) → M2.find hs h i = i + hs.length
  | [], i, _ => by simp [M2.find]
  | x :: xs, i, hn => by
    rw [M2.find]
    have h0 := hn 0 (by simp)
    simp at h0
    rw [if_neg h0, find_miss h xs (i + 1) (fun q hq => by have := hn (q + 1) (by simp; omega); simpa using this)]
    simp; omega

theorem hz140 : (Value.agg (hc []).toArray).cells.size = 60 := rfl
set_option maxHeartbeats 2000000 in
set_option maxRecDepth 100000 in
theorem numberK_any (w : World) (b : Nat) (ka kw kh : Value) (hits : List (List Bool)) (h : List Bool) (hB : Blk w b [ka, kw, kh] 87) (hh : Row HiE w kh hits) (h6 : ∀ x ∈ hits, x.length = 60) (hl : h.length = 60) (hn0 : 0 < hits.length) (hn1 : hits.length ≤ 1000) :
    Calls Tryz.prog 92 #[.pointer (some ⟨b, 0, none⟩), .agg (hc h).toArray] w fun e w' => e = .returned (.int .i64 (M2.find hits h 0 : Int)) ∧ ∃ kh', Blk w' b [ka, kw, kh'] 87 ∧ Row HiE w' kh' (if M2.find hits h 0 = hits.length then hits ++ [h] else hits) ∧ Fresh w kh kh' ∧ Mod (fun k => k = b ∨ kh.ownBlock = some k) w w' := by
  obtain ⟨g, cap, rfl, hg, hcap⟩ := hh.form hn0
  obtain ⟨n, hn⟩ : ∃ n, n = hits.length := ⟨_, rfl⟩
  rw [← hn] at hh hcap hn0 hn1
  have HN : Hid (n = hits.length) := hn
  have H6 : Hid (∀ x ∈ hits, x.length = 60) := h6
  have HL : Hid (h.length = 60) := hl
  have HB : Hid (Blk w b [ka, kw, .slice (some ⟨g, 0, none⟩) n cap] 87) := by have := hB; rw [hn]; exact this
  have HH : Hid (Row HiE w (.slice (some ⟨g, 0, none⟩) n cap) hits) := hh
  have c2 := HB.out.cellA 2 rfl
  have hblt := HB.out.lt
  rw [← hn] at hB ⊢
  obtain ⟨F, hF⟩ : ∃ F, F = M2.find hits h 0 := ⟨_, rfl⟩
  rw [← hF]
  obtain ⟨H2, hH2⟩ : ∃ H2, H2 = if F = n then hits ++ [h] else hits := ⟨_, rfl⟩
  rw [← hH2]
  have HF : Hid (F = M2.find hits h 0 ∧ H2 = if F = n then hits ++ [h] else hits) := ⟨hF, hH2⟩
  clear hh h6 hl hB hn hF hH2
  go_enter Tryz.func92, Tryz.ntmps92
  go_wp2_with fail
  clear c2
  have HZ : Hid (∀ o, Mod No w (w.alloc o) ) := fun o => (Mod.refl _ _).alloc o
  have HZ2 : Hid (Blk (w.alloc (Obj.cells (hc h).toArray 204)) w.heap.size (hc h) 204) := heap_alloc_new w _
  go_loopg [12] n (fun gh v12 wr => ∃ i : Nat, v12 = .int .i64 (i : Int) ∧ i ≤ n ∧ gh = n - i ∧ Mod No w wr ∧ Blk wr w.heap.size (hc h) 204 ∧ ∀ q, q < i → hits[q]? ≠ some h)
  case atStart => exact ⟨0, rfl, by omega, rfl, HZ.out _, HZ2.out, fun q hq => by omega⟩
  case round =>
    obtain ⟨i, rfl, hin, hgh, hm, hX, hno⟩ := hrel
    have HM : Hid (Mod No w wr) := hm
    have HX : Hid (Blk wr w.heap.size (hc h) 204) := hX
    have HNO : Hid (∀ q, q < i → hits[q]? ≠ some h) := hno
    clear HZ HZ2
    by_cases hlt : i < n
    · obtain ⟨x, hx⟩ : ∃ x, hits[i]? = some x := ⟨hits[i]'(by have := HN.out; omega), List.getElem?_eq_getElem _⟩
      have hrow := HH.out.no hm
      have hr1 : wr.rangeAt g (i * 60) (hc x) := hrow.range hx
      have hX2 := hX
      have hi1 : (i : Int) < (n : Int) := by omega
      have heq := eq_hits x h (H6.out x (List.mem_of_getElem? hx)) HL.out
      have HXI : Hid (hits[i]? = some x) := hx
      have hnw : w.heap.size ≠ wr.heap.size := by have := hX.lt; omega
      have hr2 : wr.rangeAt w.heap.size 0 (hc h) := hX2.range
      have q1 := cellsAt_of hr1
      have q2 := cellsAt_of hr2
      rw [hc_len] at q1 q2
      obtain ⟨q1, q3⟩ := q1
      obtain ⟨q2, q4⟩ := q2
      clear hm hX hno hrow hx hr1 hr2 hX2
      by_cases hxh : x = h
      · subst hxh
        have hde : decide (x = x) = true := decide_eq_true rfl
        have HFI : Hid (F = i ∧ H2 = hits) := by
          have e : F = i := by rw [HF.out.1, find_hit x hits 0 i (by have := HN.out; omega) HNO.out HXI.out]; omega
          exact ⟨e, by rw [HF.out.2, if_neg (by omega)]⟩
        rw [hde] at heq
        go_wp2
        go_ret
        exact ⟨by rw [HFI.out.1]; rfl, _, (HB.out.mod HM.out (fun x => x)).alloc _, by rw [HFI.out.2]; exact (HH.out.no HM.out).alloc _, Fresh.refl _ _, (HM.out.more (fun _ _ x => x.elim)).alloc _⟩
      · have hde : decide (x = h) = false := decide_eq_false hxh
        rw [hde] at heq
        go_wp2
        go_roundg (n - (i + 1))
        case measure => omega
        case rel => exact ⟨i + 1, by go_num, by omega, rfl, HM.out.alloc _, HX.out.alloc _, fun q hq e => by
          by_cases hqi : q < i
          · exact HNO.out q hqi e
          · have : q = i := by omega
            rw [this, HXI.out] at e
            exact hxh (Option.some.inj e)⟩
    · obtain rfl : i = n := by omega
      have HFI : Hid (F = i ∧ H2 = hits ++ [h]) := by
        have e : F = i := by rw [HF.out.1, find_miss h hits 0 (fun q hq => HNO.out q (by have := HN.out; omega))]; have := HN.out; omega
        exact ⟨e, by rw [HF.out.2, if_pos e]⟩
      obtain ⟨i0, hinf, hz0, hz1, hz2⟩ := info_parts Tryz.info204
      have hB1 := HB.out.mod hm (fun x => x)
      have hH1 := HH.out.no hm
      have q2 := cellsAt_of hX.range
      rw [hc_len] at q2
      obtain ⟨q2, q4⟩ := q2
      have d2 := hB1.cell 2 rfl
      have K2 := hB1.cellA 2 rfl
      have F2 := hB1.freeA 2
      have hown : wr.ownsRow 0 204 60 (.slice (some ⟨g, 0, none⟩) i cap) i (hits.flatMap HiE.f) := by have := hH1; unfold Row at this; rw [← HN.out] at this; exact this
      have hb1 := hB1.lt
      have hbg : some b ≠ (Value.slice (some ⟨g, 0, none⟩) i cap).ownBlock := fun e => hB1.apart hH1 (by decide) e.symm
      have hX1 := hX.lt
      clear hm hX hno
      go_wp2_with fail
      go_region_law (refine step_append_lies _ (by rfl) _ _ _ (by rfl) 0 204 i0 _ 60 60 Tryz.underlying85 hinf hz0 hz1 hz2 hz140 (by omega) (.slice (some ⟨g, 0, none⟩) i cap) i (hits.flatMap HiE.f) (by rfl) ((hown.alloc _).drew) ⟨wr.heap.size, 0, none⟩ 1 1 (hc h) (by rfl) (by rw [hc_len]) (World.news_of_block (cs := (hc h).toArray) (t := 204) (fr := (0, 0)) (heap_alloc_new wr _)) (hc_one h) (by omega) (by unfold maxLen; omega) (by omega) (by simp) (wr.heap.size + 1) (by simp) ?_; intro gg cap2 w7 hown7 hgrow hat hltt; have s0 := (hgrow.cell_far ⟨b, 2, none⟩ (by simp; omega) hbg).trans (K2 _); have s1 := (hgrow.frozen_far ⟨b, 2, none⟩ (by simp; omega) hbg).trans (F2 _))
      all_goals
        have hB7 : Blk w7 b [ka, kw, .slice (some ⟨g, 0, none⟩) i cap] 87 := ((hB1.alloc _).drew).grown hgrow hbg
        have hr7 : Row HiE w7 (.slice (some ⟨gg, 0, none⟩) (i + 1) cap2) (hits ++ [h]) := by
          refine Row.snoc ?_
          rw [← HN.out]
          exact hown7
        have hf7 : Fresh w (.slice (some ⟨g, 0, none⟩) i cap) (.slice (some ⟨gg, 0, none⟩) (i + 1) cap2) := by
          intro g1 hg1
          cases hg1
          rcases hat with h | h
          · exact Or.inl h
          · exact Or.inr (by have := HM.out.size; show w.heap.size ≤ gg; omega)
        have hm7 : Mod (fun k => k = b ∨ (Value.slice (some ⟨g, 0, none⟩) i cap).ownBlock = some k) w w7 := (((HM.out.more (fun _ _ x => x.elim)).alloc _).drew).grown hgrow (fun g1 hg1 _ => Or.inr hg1)
        have HR : Hid (Blk (w7.setCell ⟨b, 2, none⟩ (.slice (some ⟨gg, 0, none⟩) (i + 1) cap2)) b [ka, kw, .slice (some ⟨gg, 0, none⟩) (i + 1) cap2] 87 ∧ Row HiE (w7.setCell ⟨b, 2, none⟩ (.slice (some ⟨gg, 0, none⟩) (i + 1) cap2)) (.slice (some ⟨gg, 0, none⟩) (i + 1) cap2) (hits ++ [h]) ∧ Fresh w (.slice (some ⟨g, 0, none⟩) i cap) (.slice (some ⟨gg, 0, none⟩) (i + 1) cap2) ∧ Mod (fun k => k = b ∨ (Value.slice (some ⟨g, 0, none⟩) i cap).ownBlock = some k) w (w7.setCell ⟨b, 2, none⟩ (.slice (some ⟨gg, 0, none⟩) (i + 1) cap2))) :=
          ⟨hB7.set 2 _, hr7.other (a := ⟨b, 2, none⟩) (hB7.apart hr7 (by decide)) _, hf7, hm7.setCell (a := ⟨b, 2, none⟩) (fun _ => Or.inl rfl) _⟩
        have z2 := HR.out.1.cell 2 rfl
        clear hB7 hr7 hf7 hm7 hown7 hgrow hat hltt s0 s1 hown hB1 hH1 d2 K2 F2 q2 q4 hinf hz0 hz1 hz2
        go_wp2
        go_ret
        exact ⟨by rw [HFI.out.1]; exact wrap_ret (by omega), _, HR.out.1, by rw [HFI.out.2]; exact HR.out.2.1, HR.out.2.2.1, HR.out.2.2.2⟩
end Go.Proofs.YtmbapmbpnnaanabGreatDoor
namespace Go.Proofs.YtmbapmbpnnaanabGreatDoor
open Go.RowKit

def StE : Enc (List UInt8) := ⟨9, 1, fun s => [.string ⟨s.toArray⟩], fun _ => rfl⟩
theorem Tryz.info9 : (Tryz.prog.info? 9).map (fun i => (i.zero, i.size, i.bytes)) = some (some (.string ⟨#[]⟩), 1, 16) := by kernel_rfl
theorem StE.cell {w : World} {g n cap : Nat} {xs : List (List UInt8)} (h : Row StE w (.slice (some ⟨g, 0, none⟩) n cap) xs) {i : Nat} {x : List UInt8} (hx : xs[i]? = some x) : w.cell? ⟨g, i, none⟩ = some (.string ⟨x.toArray⟩) := by
  have := h.cell i 0 hx (u := .string ⟨x.toArray⟩) rfl
  have e : i * StE.c + 0 = i := by show i * 1 + 0 = i; omega
  rwa [e] at this
theorem Row.far {α β : Type} {E : Enc α} {E' : Enc β} {w : World} {v v' : Value} {xs : List α} {ys : List β} (h : Row E w v xs) (h' : Row E' w v' ys) (ht : E.T ≠ E'.T) : v.ownBlock = none ∨ v.ownBlock ≠ v'.ownBlock := by
  cases e : v.ownBlock with
  | none => exact .inl rfl
  | some g => exact .inr fun e2 => h.apart h' ht e e2.symm
theorem Row.open {α : Type} {E : Enc α} {w : World} {v : Value} {xs : List α} {n : Nat} (h : Row E w v xs) (hn : xs.length = n) : ∃ a cap, v = .slice a n cap ∧ n ≤ cap ∧ w.ownsRow 0 E.T E.c (.slice a n cap) n (xs.flatMap E.f) := by
  obtain ⟨a, cap, hv, -, hc, -⟩ := h.any
  rw [hn] at hv hc
  refine ⟨a, cap, hv, hc, ?_⟩
  have h2 : w.ownsRow 0 E.T E.c v xs.length (xs.flatMap E.f) := h
  rwa [hn, hv] at h2
/-- What an append leaves. -/
theorem app_row {α : Type} {E : Enc α} {w7 : World} {xs : List α} {x : α} {n gg cap : Nat} {nc : List Value} (hn : xs.length = n) (hx : nc = E.f x) (h : w7.ownsRow 0 E.T E.c (.slice (some ⟨gg, 0, none⟩) (n + 1) cap) (n + 1) (xs.flatMap E.f ++ nc)) : Row E w7 (.slice (some ⟨gg, 0, none⟩) (n + 1) cap) (xs ++ [x]) := by
  refine Row.snoc ?_
  rw [hn, ← hx]
  exact h
theorem app_fresh {w : World} {v : Value} {gg n cap H : Nat} (hat : v.ownBlock = some gg ∨ gg = H) (hH : w.heap.size ≤ H) : Fresh w v (.slice (some ⟨gg, 0, none⟩) n cap) := by
  intro g1 hg1
  cases hg1
  rcases hat with h | h
  · exact Or.inl h
  · exact Or.inr (by show w.heap.size ≤ gg; omega)

structure KOk (k : M2.Kinds) : Prop where
  six : ∀ h ∈ k.hits, h.length = 60
  len : k.words.length = k.hits.length
  pos : 0 < k.hits.length
  wl : ∀ x ∈ k.words, x.length ≤ k.words.length
structure KStep (a : M2.Auto) (i l : Nat) (k : M2.Kinds) (n : Nat) (k' : M2.Kinds) (h h' : List Bool) : Prop where
  hi : k.hits[i]? = some h
  ah : M2.aheadGo h l a.nx 60 = some h'
  fn : n = M2.find k.hits h' 0
  ht : k'.hits = if n = k.hits.length then k.hits ++ [h'] else k.hits
  wo : (n = k.words.length ∧ ∃ x, k.words[i]? = some x ∧ k'.words = k.words ++ [M2.letterOf l ++ x]) ∨ (n ≠ k.words.length ∧ k'.words = k.words)
  ad : k'.ahead = k.ahead
theorem kindL_spec {a : M2.Auto} {i l : Nat} {k : M2.Kinds} {n : Nat} {k' : M2.Kinds} (h : M2.kindL a i l k = some (n, k')) : ∃ h1 h2, KStep a i l k n k' h1 h2 := by
  unfold M2.kindL at h
  split at h
  · cases h
  · rename_i h1 hi
    split at h
    · cases h
    · rename_i h2 ha
      dsimp only at h
      split at h
      · rename_i hw
        split at h
        · cases h
        · rename_i x hx
          simp only [Option.some.injEq, Prod.mk.injEq] at h
          obtain ⟨h3, h4⟩ := h
          subst h3
          exact ⟨h1, h2, hi, ha, rfl, by rw [← h4], Or.inl ⟨hw, x, hx, by rw [← h4]⟩, by rw [← h4]⟩
      · rename_i hw
        simp only [Option.some.injEq, Prod.mk.injEq] at h
        obtain ⟨h3, h4⟩ := h
        subst h3
        exact ⟨h1, h2, hi, ha, rfl, by rw [← h4], Or.inr ⟨hw, by rw [← h4]⟩, by rw [← h4]⟩
theorem KStep.ok {a : M2.Auto} {i l : Nat} {k : M2.Kinds} {n : Nat} {k' : M2.Kinds} {h h' : List Bool} (hs : KStep a i l k n k' h h') (hk : KOk k) : KOk k' ∧ k'.hits.length ≤ k.hits.length + 1 ∧ k.hits.length ≤ k'.hits.length := by
  have hl := ahead_len h l 60 a.nx h' hs.ah
  rcases hs.wo with ⟨hn, x, hx, hw⟩ | ⟨hn, hw⟩
  · have e : k'.hits = k.hits ++ [h'] := by rw [hs.ht, if_pos (by rw [hn, hk.len])]
    refine ⟨⟨?_, ?_, ?_, ?_⟩, ?_, ?_⟩
    · intro y hy
      rw [e] at hy
      rcases List.mem_append.1 hy with h1 | h1
      · exact hk.six y h1
      · simp at h1; rw [h1]; exact hl
    · rw [hw, e]; simp [hk.len]
    · rw [e]; simp
    · intro y hy
      rw [hw] at hy ⊢
      rcases List.mem_append.1 hy with h1 | h1
      · have := hk.wl y h1; simp; omega
      · simp at h1
        have := hk.wl x (List.mem_of_getElem? hx)
        rw [h1]; simp [M2.letterOf]; omega
    · rw [e]; simp
    · rw [e]; simp
  · have e : k'.hits = k.hits := by rw [hs.ht, if_neg (by rw [← hk.len]; exact hn)]
    exact ⟨⟨by rw [e]; exact hk.six, by rw [hw, e]; exact hk.len, by rw [e]; exact hk.pos, by rw [hw]; exact hk.wl⟩, by rw [e]; omega, by rw [e]; omega⟩
/-- The four letters of a kind. -/
theorem kinds4 {a : M2.Auto} {i : Nat} {k : M2.Kinds} {f : Nat} {r : Option M2.Kinds} (hi : ¬ k.hits.length ≤ i) (h : M2.kindsGo a (f + 1) i k = some r) :
    ∃ (Ks : Nat → M2.Kinds) (Nv : Nat → Nat), Ks 0 = k ∧ (∀ l, l < 4 → M2.kindL a i l (Ks l) = some (Nv l, Ks (l + 1))) ∧ ((24 < (Ks 4).hits.length ∧ r = none) ∨ (¬ 24 < (Ks 4).hits.length ∧ M2.kindsGo a f (i + 1) { Ks 4 with ahead := (Ks 4).ahead ++ [⟨Nv 0, Nv 1, Nv 2, Nv 3⟩] } = some r)) := by
  rw [M2.kindsGo, if_neg hi] at h
  split at h
  · cases h
  · rename_i p k1 h1
    split at h
    · cases h
    · rename_i q k2 h2
      split at h
      · cases h
      · rename_i u k3 h3
        split at h
        · cases h
        · rename_i v k4 h4
          refine ⟨fun n => match n with | 0 => k | 1 => k1 | 2 => k2 | 3 => k3 | _ => k4, fun n => match n with | 0 => p | 1 => q | 2 => u | _ => v, rfl, fun l hl => ?_, ?_⟩
          · match l, hl with
            | 0, _ => exact h1
            | 1, _ => exact h2
            | 2, _ => exact h3
            | 3, _ => exact h4
          · split at h
            · rename_i hb
              exact Or.inl ⟨hb, (Option.some.inj h).symm⟩
            · rename_i hb
              exact Or.inr ⟨hb, h⟩

structure KI (w : World) (vx vh : Value) (a : M2.Auto) (C : Nat) (ka kw kh : Value) (k : M2.Kinds) (wr : World) : Prop where
  box : Blk wr w.heap.size [vx, vh] 142
  res : Blk wr (w.heap.size + 1) [.slice none 0 0, .slice none 0 0, .slice none 0 0] 87
  kin : Blk wr C [ka, kw, kh] 87
  ax : Row R4E wr vx a.nx
  ah : Row R4E wr ka k.ahead
  wo : Row StE wr kw k.words
  hi : Row HiE wr kh k.hits
  md : Mod No w wr
  fa : ∀ g, ka.ownBlock = some g → w.heap.size ≤ g
  fw : ∀ g, kw.ownBlock = some g → w.heap.size ≤ g
  fh : ∀ g, kh.ownBlock = some g → w.heap.size ≤ g
  ox : ∀ g, vx.ownBlock = some g → g < w.heap.size
  oC : w.heap.size + 1 < C
section
variable {w : World} {vx vh : Value} {a : M2.Auto} {C : Nat} {ka kw kh : Value} {k : M2.Kinds} {wr wr' : World}
theorem KI.no (h : KI w vx vh a C ka kw kh k wr) (hm : Mod No wr wr') : KI w vx vh a C ka kw kh k wr' :=
  ⟨h.box.mod hm (fun x => x), h.res.mod hm (fun x => x), h.kin.mod hm (fun x => x), h.ax.no hm, h.ah.no hm, h.wo.no hm, h.hi.no hm, h.md.no hm, h.fa, h.fw, h.fh, h.ox, h.oC⟩
/-- Some other block of the call's own is changed. -/
theorem KI.side {Q : Nat} {cs : List Value} {T : Nat} (h : KI w vx vh a C ka kw kh k wr) (hQ : Blk wr Q cs T) (hm : Mod (fun k => k = Q) wr wr') (h0 : w.heap.size ≤ Q) (hT1 : T ≠ 142) (hT2 : T ≠ 87) (ha : ka.ownBlock ≠ some Q) (hw : kw.ownBlock ≠ some Q) (hh : kh.ownBlock ≠ some Q) : KI w vx vh a C ka kw kh k wr' :=
  ⟨h.box.mod hm (fun e => hQ.diff h.box hT1 e.symm), h.res.mod hm (fun e => hQ.diff h.res hT2 e.symm), h.kin.mod hm (fun e => hQ.diff h.kin hT2 e.symm), h.ax.mod hm (fun g hg e => by have := h.ox g hg; omega), h.ah.mod hm (fun g hg e => ha (by rw [hg, e])), h.wo.mod hm (fun g hg e => hw (by rw [hg, e])), h.hi.mod hm (fun g hg e => hh (by rw [hg, e])),
   h.md.trans' hm (fun k hk e => by omega), h.fa, h.fw, h.fh, h.ox, h.oC⟩
theorem KI.num {kh' : Value} {hits : List (List Bool)} (h : KI w vx vh a C ka kw kh k wr) (hB : Blk wr' C [ka, kw, kh'] 87) (hr : Row HiE wr' kh' hits) (hf : Fresh wr kh kh') (hm : Mod (fun k => k = C ∨ kh.ownBlock = some k) wr wr') : KI w vx vh a C ka kw kh' { k with hits := hits } wr' := by
  have hC := h.oC
  refine ⟨h.box.mod hm ?_, h.res.mod hm ?_, hB, h.ax.mod hm ?_, h.ah.mod hm ?_, h.wo.mod hm ?_, hr, h.md.trans' hm ?_, h.fa, h.fw, ?_, h.ox, h.oC⟩
  · rintro (e | e)
    · exact h.box.diff h.kin (by decide) e
    · exact h.box.apart h.hi (by decide) e
  · rintro (e | e)
    · omega
    · exact h.res.apart h.hi (by decide) e
  · rintro g hg (e | e)
    · exact h.kin.apart h.ax (by decide) (by rw [hg, e])
    · exact h.ax.apart h.hi (by decide) hg e
  · rintro g hg (e | e)
    · exact h.kin.apart h.ah (by decide) (by rw [hg, e])
    · exact h.ah.apart h.hi (by decide) hg e
  · rintro g hg (e | e)
    · exact h.kin.apart h.wo (by decide) (by rw [hg, e])
    · exact h.wo.apart h.hi (by decide) hg e
  · rintro g hg (e | e)
    · omega
    · have := h.fh g e; omega
  · intro g hg
    rcases hf g hg with e | e
    · exact h.fh g e
    · have := h.md.size; omega
theorem KI.word {w7 : World} {v2 : Value} {ws : List (List UInt8)} (h : KI w vx vh a C ka kw kh k wr) (hg : wr.grownBy w7 kw.ownBlock) (hrow : Row StE w7 v2 ws) (hf : Fresh wr kw v2) : KI w vx vh a C ka v2 kh { k with words := ws } (w7.setCell ⟨C, 1, none⟩ v2) := by
  have kb : ∀ {b : Nat} {cs : List Value} {T : Nat}, Blk wr b cs T → T ≠ 9 → Blk w7 b cs T := fun hb ht => hb.grown hg (fun e => hb.apart h.wo ht e.symm)
  have hK := kb h.kin (by decide)
  have hC := h.oC
  have r1 := h.ax.grown hg (h.ax.far h.wo (by decide))
  have r2 := h.ah.grown hg (h.ah.far h.wo (by decide))
  have r3 := h.hi.grown hg (h.hi.far h.wo (by decide))
  have hm7 : Mod No w w7 := h.md.grown hg fun g e hlt => by have := h.fw g e; omega
  refine ⟨(kb h.box (by decide)).other (a := ⟨C, 1, none⟩) (h.box.diff h.kin (by decide)) _, (kb h.res (by decide)).other (a := ⟨C, 1, none⟩) (by show w.heap.size + 1 ≠ C; omega) _, hK.set 1 v2, r1.other (a := ⟨C, 1, none⟩) (hK.apart r1 (by decide)) _, r2.other (a := ⟨C, 1, none⟩) (hK.apart r2 (by decide)) _, hrow.other (a := ⟨C, 1, none⟩) (hK.apart hrow (by decide)) _, r3.other (a := ⟨C, 1, none⟩) (hK.apart r3 (by decide)) _, hm7.setCell (a := ⟨C, 1, none⟩) (fun e => absurd e (by show ¬ C < w.heap.size; omega)) _, h.fa, fun g hg => ?_, h.fh, h.ox, h.oC⟩
  rcases hf g hg with e | e
  · exact h.fw g e
  · have := h.md.size; omega
theorem KI.row {w7 : World} {v2 : Value} {rs : List Mir.R4} (h : KI w vx vh a C ka kw kh k wr) (hg : wr.grownBy w7 ka.ownBlock) (hrow : Row R4E w7 v2 rs) (hf : Fresh wr ka v2) : KI w vx vh a C v2 kw kh { k with ahead := rs } (w7.setCell ⟨C, 0, none⟩ v2) := by
  have kb : ∀ {b : Nat} {cs : List Value} {T : Nat}, Blk wr b cs T → T ≠ 106 → Blk w7 b cs T := fun hb ht => hb.grown hg (fun e => hb.apart h.ah ht e.symm)
  have hK := kb h.kin (by decide)
  have hC := h.oC
  have r1 : Row R4E w7 vx a.nx := h.ax.grown hg (by
    cases e : vx.ownBlock with
    | none => exact .inl rfl
    | some g => exact .inr fun e2 => by have := h.ox g e; have := h.fa g e2.symm; omega)
  have r2 := h.wo.grown hg (h.wo.far h.ah (by decide))
  have r3 := h.hi.grown hg (h.hi.far h.ah (by decide))
  have hm7 : Mod No w w7 := h.md.grown hg fun g e hlt => by have := h.fa g e; omega
  refine ⟨(kb h.box (by decide)).other (a := ⟨C, 0, none⟩) (h.box.diff h.kin (by decide)) _, (kb h.res (by decide)).other (a := ⟨C, 0, none⟩) (by show w.heap.size + 1 ≠ C; omega) _, hK.set 0 v2, r1.other (a := ⟨C, 0, none⟩) (hK.apart r1 (by decide)) _, hrow.other (a := ⟨C, 0, none⟩) (hK.apart hrow (by decide)) _, r2.other (a := ⟨C, 0, none⟩) (hK.apart r2 (by decide)) _, r3.other (a := ⟨C, 0, none⟩) (hK.apart r3 (by decide)) _, hm7.setCell (a := ⟨C, 0, none⟩) (fun e => absurd e (by show ¬ C < w.heap.size; omega)) _, fun g hg => ?_, h.fw, h.fh, h.ox, h.oC⟩
  rcases hf g hg with e | e
  · exact h.fa g e
  · have := h.md.size; omega
end
end Go.Proofs.YtmbapmbpnnaanabGreatDoor
