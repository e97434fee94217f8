import Derived.Test.YtmbapmbpnnaanabGreatDoorNB
namespace Go.Proofs.YtmbapmbpnnaanabGreatDoor.M3
open Go.Proofs.YtmbapmbpnnaanabGreatDoor.M2
def onOk (np : Nat) (o : List Int) : Bool := decide (o.length = np) && o.all fun x => decide (-1 ≤ x) && decide (x ≤ 1000000)
def findOn (np : Nat) (steps : List Stp) : Nat → Option Nat → Nat → List Int → Option (List Int)
  | 0, _, _, _ => none
  | f + 1, before, count, on => if before = some count then some on else
    match onTo np steps on with
    | none => none
    | some o => if onOk np o then findOn np steps f (some count) (countOn o) o else none
end Go.Proofs.YtmbapmbpnnaanabGreatDoor.M3
namespace Go.Proofs.YtmbapmbpnnaanabGreatDoor
open Go.RowKit
attribute [local go_sem ↓] Go.wp_at_zero Go.wp_at_succ

def bI : Option Nat → Int
  | none => -1
  | some b => (b : Int)
theorem bI_ne (b : Option Nat) (c : Nat) : (((c : Int) != bI b) = true ↔ ¬ b = some c) := by
  cases b with
  | none => simp [bI]
  | some b => simp [bI]; omega
theorem onOk_of {np : Nat} {o : List Int} (h : M3.onOk np o = true) : o.length = np ∧ ∀ x ∈ o, -1 ≤ x ∧ x ≤ 1000000 := by
  unfold M3.onOk at h
  simp only [Bool.and_eq_true, decide_eq_true_eq, List.all_eq_true] at h
  exact h
theorem findOn_step {np : Nat} {steps : List M2.Stp} {f count : Nat} {before : Option Nat} {on R : List Int} (h : M3.findOn np steps (f + 1) before count on = some R) : (before = some count ∧ on = R) ∨ (¬ before = some count ∧ ∃ o, M3.onTo np steps on = some o ∧ M3.onOk np o = true ∧ M3.findOn np steps f (some count) (M2.countOn o) o = some R) := by
  rw [M3.findOn] at h
  split at h
  · rename_i he
    exact Or.inl ⟨he, Option.some.inj h⟩
  · rename_i he
    split at h
    · cases h
    · rename_i o ho
      split at h
      · rename_i hk
        exact Or.inr ⟨he, o, ho, hk, h⟩
      · cases h
theorem countOn_le : ∀ o : List Int, M2.countOn o ≤ o.length
  | [] => by simp [M2.countOn]
  | x :: xs => by
    rw [M2.countOn]
    have := countOn_le xs
    split <;> simp <;> omega
theorem countOn_take {o : List Int} {i : Nat} {x : Int} (hx : o[i]? = some x) : M2.countOn (o.take (i + 1)) = M2.countOn (o.take i) + if 0 ≤ x then 1 else 0 := by
  induction o generalizing i with
  | nil => simp at hx
  | cons a o ih =>
    cases i with
    | zero => simp at hx; subst hx; simp [M2.countOn]
    | succ i =>
      simp at hx
      rw [List.take_succ_cons, List.take_succ_cons, M2.countOn, M2.countOn, ih hx]
      omega
section
variable {v : M2.View} {base G : Nat} {ka kw kh kd vp c5 vn vs c8 c9 : Value} {pairs : List M2.Pair} {nums : List Nat} {steps : List M2.Stp} {w w' : World}
/-- A field that holds no row of theirs. -/
theorem NG.set9 (h : NG v base G ka kw kh kd vp c5 vn vs c8 c9 pairs nums steps w) (u : Value) : NG v base G ka kw kh kd vp c5 vn vs c8 u pairs nums steps (w.setCell ⟨G, 9, none⟩ u) := by
  have hm2 : Mod (fun k => k = G) w (w.setCell ⟨G, 9, none⟩ u) := (Mod.refl (fun k => k = G) _).setCell (a := ⟨G, 9, none⟩) (fun _ => rfl) _
  have hs2 := Safe.one h.blk
  exact ⟨h.blk.set 9 u, h.vw.far hm2 hs2 (by decide) (by decide), h.pr.safe hm2 hs2 (by decide) (by decide), h.nu.safe hm2 hs2 (by decide) (by decide), h.sp.safe hm2 hs2 (by decide) (by decide)⟩
theorem NG.set8 (h : NG v base G ka kw kh kd vp c5 vn vs c8 c9 pairs nums steps w) (u : Value) : NG v base G ka kw kh kd vp c5 vn vs u c9 pairs nums steps (w.setCell ⟨G, 8, none⟩ u) := by
  have hm2 : Mod (fun k => k = G) w (w.setCell ⟨G, 8, none⟩ u) := (Mod.refl (fun k => k = G) _).setCell (a := ⟨G, 8, none⟩) (fun _ => rfl) _
  have hs2 := Safe.one h.blk
  exact ⟨h.blk.set 8 u, h.vw.far hm2 hs2 (by decide) (by decide), h.pr.safe hm2 hs2 (by decide) (by decide), h.nu.safe hm2 hs2 (by decide) (by decide), h.sp.safe hm2 hs2 (by decide) (by decide)⟩
theorem NG.set5 (h : NG v base G ka kw kh kd vp c5 vn vs c8 c9 pairs nums steps w) (u : Value) : NG v base G ka kw kh kd vp u vn vs c8 c9 pairs nums steps (w.setCell ⟨G, 5, none⟩ u) := by
  have hm2 : Mod (fun k => k = G) w (w.setCell ⟨G, 5, none⟩ u) := (Mod.refl (fun k => k = G) _).setCell (a := ⟨G, 5, none⟩) (fun _ => rfl) _
  have hs2 := Safe.one h.blk
  exact ⟨h.blk.set 5 u, h.vw.far hm2 hs2 (by decide) (by decide), h.pr.safe hm2 hs2 (by decide) (by decide), h.nu.safe hm2 hs2 (by decide) (by decide), h.sp.safe hm2 hs2 (by decide) (by decide)⟩
end
/-- The graph while onward is sought. -/
structure FO (w : World) (v : M2.View) (base G : Nat) (ka kw kh kd vp c5 vn vs c8 vo : Value) (g : M3.Gr) (on : List Int) (wr : World) : Prop where
  ng : NG v base G ka kw kh kd vp c5 vn vs c8 vo g.pairs g.nums g.steps wr
  on : Row IzE wr vo on
  md : Mod (fun k => k = G) w wr
  fo : ∀ q, vo.ownBlock = some q → w.heap.size ≤ q
theorem FO.no {w : World} {v : M2.View} {base G : Nat} {ka kw kh kd vp c5 vn vs c8 vo : Value} {g : M3.Gr} {on : List Int} {wr wr' : World} (h : FO w v base G ka kw kh kd vp c5 vn vs c8 vo g on wr) (hm : Mod No wr wr') : FO w v base G ka kw kh kd vp c5 vn vs c8 vo g on wr' := ⟨h.ng.no hm, h.on.no hm, h.md.no hm, h.fo⟩

set_option maxHeartbeats 1600000 in
set_option maxRecDepth 100000 in
theorem findOnward_any (w : World) (v : M2.View) (base G : Nat) (ka kw kh kd vp c5 vn vs c8 : Value) (g : M3.Gr) (h : NG v base G ka kw kh kd vp c5 vn vs c8 nilS g.pairs g.nums g.steps w) (hnp : g.pairs.length ≤ 100000) (hns : g.steps.length ≤ 100000) {R : List Int} (hM : M3.findOn g.pairs.length g.steps 10000 none g.pairs.length (List.replicate g.pairs.length 0) = some R) :
    Calls Tryz.prog 101 #[.pointer (some ⟨G, 0, none⟩)] w fun e w' => e = .returned (.tuple #[]) ∧ ∃ vo, FO w v base G ka kw kh kd vp c5 vn vs c8 vo g R w' := by
  obtain ⟨np, hnp'⟩ : ∃ np, np = g.pairs.length := ⟨_, rfl⟩
  obtain ⟨pA, pC, evp, -, -⟩ := h.pr.open hnp'.symm
  have H79 : Hid (∀ (wx : World) (vo : Value) (on R2 : List Int), FO w v base G ka kw kh kd vp c5 vn vs c8 vo g on wx → on.length = np → (∀ x ∈ on, -1 ≤ x ∧ x ≤ 1000000) → M3.onTo np g.steps on = some R2 → Calls Tryz.prog 131 #[.pointer (some ⟨G, 0, none⟩)] wx fun e w' => Mod No wx w' ∧ ∃ u, e = .returned u ∧ Row IzE w' u R2 ∧ (∀ q, u.ownBlock = some q → wx.heap.size ≤ q)) := fun wx vo on R2 hF hl hv hM => onwardTo_any wx v base G ka kw kh kd vp c5 vn vs c8 vo g hF.ng on hF.on (by omega) hnp hns hv (by rw [← hnp']; exact hM)
  rw [← hnp'] at hM hnp
  have HM : Hid (M3.findOn np g.steps 10000 none np (List.replicate np 0) = some R) := hM
  have HE : Hid (vp = .slice pA np pC) := evp
  have hmk := make_ints np (by omega)
  have k4 := h.blk.cell 4 rfl
  have K4 := h.blk.cellA 4 rfl
  rw [evp] at k4 K4
  have K9 := h.blk.cellA 9 rfl
  have F9 := h.blk.freeA 9
  have hGne : ¬ G = w.heap.size := by have := h.blk.lt; omega
  have HI0 : Hid (∀ A, A = Obj.cells (Array.replicate np (.int .i64 0)) 3 → FO w v base G ka kw kh kd vp c5 vn vs c8 (.slice (some ⟨w.heap.size, 0, none⟩) np np) g (List.replicate np 0) ((w.alloc A).setCell ⟨G, 9, none⟩ (.slice (some ⟨w.heap.size, 0, none⟩) np np))) := by
    intro A hA
    subst hA
    have e : ((List.replicate np (.int .i64 0)).toArray : Array Value) = Array.replicate np (.int .i64 0) := by simp
    have b0 : Blk (w.alloc (Obj.cells (Array.replicate np (.int .i64 0)) 3)) w.heap.size ((List.replicate np (0 : Nat)).flatMap InE.f) 3 := by rw [ints_zero]; unfold Blk; rw [e]; exact heap_alloc_new w _
    have r0 := Row.of_block (E := InE) b0 (by simp; unfold maxLen; omega)
    rw [List.length_replicate] at r0
    have r1 := InE.toIz r0
    have hm : Mod No w (w.alloc (Obj.cells (Array.replicate np (.int .i64 0)) 3)) := (Mod.refl _ _).alloc _
    have h1 := h.no hm
    refine ⟨h1.set9 _, ?_, ?_, fun q hq => by cases hq; exact Nat.le_refl _⟩
    · have r2 : Row IzE (w.alloc (Obj.cells (Array.replicate np (.int .i64 0)) 3)) (.slice (some ⟨w.heap.size, 0, none⟩) np np) (List.replicate np 0) := by simpa using r1
      exact r2.other (a := ⟨G, 9, none⟩) (h1.blk.apart r2 (by decide)) _
    · exact ((Mod.refl (fun k => k = G) w).alloc _).setCell (a := ⟨G, 9, none⟩) (fun _ => rfl) _
  clear h hM evp hnp' hns
  go_enter Tryz.func101, Tryz.ntmps101
  go_wp2_with fail
  have HI1 : Hid (FO w v base G ka kw kh kd vp c5 vn vs c8 (.slice (some ⟨w.heap.size, 0, none⟩) np np) g (List.replicate np 0) _) := HI0.out _ rfl
  clear HI0 hmk k4 K4 K9 F9
  generalize (w.alloc (Obj.cells (Array.replicate np (.int .i64 0)) 3)).setCell ⟨G, 9, none⟩ (.slice (some ⟨w.heap.size, 0, none⟩) np np) = W0 at HI1 ⊢
  go_loopg [2, 3] 10000 (fun gh v2 v3 wr => ∃ (before : Option Nat) (count : Nat) (on : List Int) (vo : Value), v2 = .int .i64 (bI before) ∧ v3 = .int .i64 (count : Int) ∧ count ≤ 100000 ∧ on.length = np ∧ (∀ x ∈ on, -1 ≤ x ∧ x ≤ 1000000) ∧ M3.findOn np g.steps gh before count on = some R ∧ FO w v base G ka kw kh kd vp c5 vn vs c8 vo g on wr)
  case atStart => exact ⟨none, np, _, _, rfl, rfl, hnp, by simp, fun x hx => (by rw [List.eq_of_mem_replicate hx]; omega), HM.out, HI1.out⟩
  case round =>
    clear HI1 HM
    obtain ⟨before, count, on, vo, rfl, rfl, hcb, hol, hov, hgo, hI⟩ := hrel
    have HI : Hid (FO w v base G ka kw kh kd vp c5 vn vs c8 vo g on wr) := hI
    match gk, hgo with
    | 0, hgo => cases hgo
    | f + 1, hgo =>
      rcases findOn_step hgo with ⟨he, rfl⟩ | ⟨he, o, hto, hok, hnext⟩
      · have hb : bI before = (count : Int) := by rw [he]; rfl
        have HVO : Hid (FO w v base G ka kw kh kd vp c5 vn vs c8 vo g on wr) := hI
        rw [hb]
        clear hI hgo he hb H79
        go_wp2
        go_end0
        exact ⟨rfl, vo, HVO.out⟩
      · have hne := (bI_ne before count).2 he
        have hne2 : ((count : Int) == bI before) = false := by
          rw [bne, Bool.not_eq_true'] at hne
          exact hne
        generalize bI before = B0 at hne hne2
        have h79 := H79.out wr vo on o hI hol hov hto
        have hoo := onOk_of hok
        have HNEXT : Hid (M3.findOn np g.steps f (some count) (M2.countOn o) o = some R) := hnext
        have HOO : Hid (o.length = np ∧ ∀ x ∈ o, -1 ≤ x ∧ x ≤ 1000000) := hoo
        clear hI hgo he hto hok hnext hoo
        go_wp2_with fail
        refine h79.mono ?_
        rintro e w2 ⟨m2, u, rfl, hu, fu⟩
        have h2 := HI.out.no m2
        obtain ⟨uA, uC, eu, -, -⟩ := hu.open HOO.out.1
        have hHI2 : FO w v base G ka kw kh kd vp c5 vn vs c8 u g o (w2.setCell ⟨G, 9, none⟩ u) := ⟨h2.ng.set9 u, hu.other (a := ⟨G, 9, none⟩) (h2.ng.blk.apart hu (by decide)) _, h2.md.setCell (a := ⟨G, 9, none⟩) (fun _ => rfl) _, fun q hq => by have := fu q hq; have := HI.out.md.size; omega⟩
        have HI2 : Hid (FO w v base G ka kw kh kd vp c5 vn vs c8 u g o (w2.setCell ⟨G, 9, none⟩ u)) := hHI2
        have HU : Hid (u = .slice uA np uC) := eu
        have d9 := h2.ng.blk.cell 9 rfl
        have f9 := h2.ng.blk.free 9
        rw [eu]
        rw [eu] at HI2
        clear h79 m2 hu fu h2 hHI2 eu HI
        go_wp2_with fail
        clear d9 f9
        generalize w2.setCell ⟨G, 9, none⟩ (.slice uA np uC) = W3 at HI2 ⊢
        go_loopg [3, 34] np (fun gh v3 v34 wr => ∃ i : Nat, i ≤ np ∧ gh = np - i ∧ v34 = .int .i64 (i : Int) ∧ v3 = .int .i64 (M2.countOn (o.take i) : Int) ∧ FO w v base G ka kw kh kd vp c5 vn vs c8 (.slice uA np uC) g o wr)
        case atStart => exact ⟨0, by omega, by omega, rfl, rfl, HI2.out⟩
        case round =>
          clear HI2
          obtain ⟨i, hin, hgi, rfl, rfl, hI⟩ := hrel
          have HI : Hid (FO w v base G ka kw kh kd vp c5 vn vs c8 (.slice uA np uC) g o wr) := hI
          by_cases hlt : i < np
          · obtain ⟨x, hx⟩ : ∃ x, o[i]? = some x := ⟨o[i]'(by rw [HOO.out.1]; exact hlt), List.getElem?_eq_getElem _⟩
            obtain ⟨gu, hgu⟩ : ∃ q, uA = some ⟨q, 0, none⟩ := by
              obtain ⟨g2, c2, h2, -⟩ := hI.on.form (by rw [HOO.out.1]; omega)
              injection h2 with h2 _
              exact ⟨g2, h2⟩
            subst hgu
            have cx := IzE.cell hI.on hx
            have hct := countOn_take hx
            have hcl := countOn_le (o.take i)
            rw [List.length_take] at hcl
            have hxb := HOO.out.2 x (List.mem_of_getElem? hx)
            have hii : (i : Int) < (np : Int) := by omega
            generalize M2.countOn (o.take i) = C at hct hcl ⊢
            by_cases h0 : 0 ≤ x
            · rw [if_pos h0] at hct
              have HCT : Hid (M2.countOn (o.take (i + 1)) = C + 1) := hct
              clear hI hx hct
              go_wp2
              go_roundg (np - (i + 1))
              case measure => omega
              case rel => exact ⟨i + 1, by omega, rfl, by go_num, by rw [HCT.out]; go_num, HI.out⟩
            · rw [if_neg h0] at hct
              have HCT : Hid (M2.countOn (o.take (i + 1)) = C) := hct
              clear hI hx hct
              go_wp2
              go_roundg (np - (i + 1))
              case measure => omega
              case rel => exact ⟨i + 1, by omega, rfl, by go_num, by rw [HCT.out], HI.out⟩
          · obtain rfl : i = np := by omega
            have HTK : Hid (o.take i = o) := List.take_of_length_le (by rw [HOO.out.1]; omega)
            have HCL : Hid (M2.countOn o ≤ i) := by have := countOn_le o; rw [HOO.out.1] at this; exact this
            have hii : ¬ (i : Int) < (i : Int) := by omega
            clear hI hgi hin hlt
            go_wp2
            go_roundg f
            case measure => omega
            case rel => exact ⟨some count, M2.countOn o, o, _, rfl, by rw [HTK.out], by have := HCL.out; omega, HOO.out.1, HOO.out.2, HNEXT.out, HI.out⟩
end Go.Proofs.YtmbapmbpnnaanabGreatDoor
namespace Go.Proofs.YtmbapmbpnnaanabGreatDoor.M3
open Go.Proofs.YtmbapmbpnnaanabGreatDoor.M2
def pairY (n x : Nat) : Nat → Nat → Gr → Option Gr
  | 0, _, g => some g
  | c + 1, y, g => if g.pairs.length ≤ 50000 then
      match gnum n g.pairs g.nums ⟨x, 0, y, 0⟩ with
      | none => none
      | some (_, ps, ns) => pairY n x c (y + 1) ⟨ps, ns, g.steps⟩
    else none
def pairX (n : Nat) : Nat → Nat → Gr → Option Gr
  | 0, _, g => some g
  | c + 1, x, g => match pairY n x (n - (x + 1)) (x + 1) g with
    | none => none
    | some g => pairX n c (x + 1) g
def lead4 (v : View) (fr : Nat) : Nat → Gr → Option Gr
  | 0, g => some g
  | c + 1, g => match lead v fr (3 - c) g with
    | none => none
    | some g => lead4 v fr c g
def grow (v : View) : Nat → Nat → Gr → List Nat → Option (Gr × List Nat)
  | 0, _, _, _ => none
  | f + 1, i, g, first => if g.pairs.length ≤ i then some (g, first) else
    if g.steps.length ≤ 100000 then
      match lead4 v i 4 g with
      | none => none
      | some g2 => grow v f (i + 1) g2 (first ++ [g.steps.length])
    else none
structure GG where
  g : Gr
  st : Nat
  first : List Nat
  on : List Int
def graph (v : View) : Option GG :=
  match pairX v.k.ahead.length v.k.ahead.length 0 ⟨[], List.replicate ((v.k.ahead.length * 4) * (v.k.ahead.length * 4)) 0, []⟩ with
  | none => none
  | some g => match grow v 10000 0 g [] with
    | none => none
    | some (g2, first) => if g2.pairs.length ≤ 100000 ∧ g2.steps.length ≤ 100000 then
        match findOn g2.pairs.length g2.steps 10000 none g2.pairs.length (List.replicate g2.pairs.length 0) with
        | none => none
        | some on => some ⟨g2, g.pairs.length, first ++ [g2.steps.length], on⟩
      else none
end Go.Proofs.YtmbapmbpnnaanabGreatDoor.M3
namespace Go.Proofs.YtmbapmbpnnaanabGreatDoor
open Go.RowKit

theorem pairY_step {n x c y : Nat} {g R : M3.Gr} (h : M3.pairY n x (c + 1) y g = some R) : g.pairs.length ≤ 50000 ∧ ∃ k ps ns, M3.gnum n g.pairs g.nums ⟨x, 0, y, 0⟩ = some (k, ps, ns) ∧ M3.pairY n x c (y + 1) ⟨ps, ns, g.steps⟩ = some R := by
  rw [M3.pairY] at h
  split at h
  · rename_i hl
    split at h
    · cases h
    · rename_i k ps ns hg
      exact ⟨hl, k, ps, ns, hg, h⟩
  · cases h
theorem pairX_step {n c x : Nat} {g R : M3.Gr} (h : M3.pairX n (c + 1) x g = some R) : ∃ g2, M3.pairY n x (n - (x + 1)) (x + 1) g = some g2 ∧ M3.pairX n c (x + 1) g2 = some R := by
  rw [M3.pairX] at h
  split at h
  · cases h
  · rename_i g2 hg
    exact ⟨g2, hg, h⟩
theorem lead4_step {v : M2.View} {fr c : Nat} {g R : M3.Gr} (h : M3.lead4 v fr (c + 1) g = some R) : ∃ g2, M3.lead v fr (3 - c) g = some g2 ∧ M3.lead4 v fr c g2 = some R := by
  rw [M3.lead4] at h
  split at h
  · cases h
  · rename_i g2 hg
    exact ⟨g2, hg, h⟩
theorem grow_step {v : M2.View} {f i : Nat} {g : M3.Gr} {first : List Nat} {R : M3.Gr × List Nat} (h : M3.grow v (f + 1) i g first = some R) : (g.pairs.length ≤ i ∧ R = (g, first)) ∨ (¬ g.pairs.length ≤ i ∧ g.steps.length ≤ 100000 ∧ ∃ g2, M3.lead4 v i 4 g = some g2 ∧ M3.grow v f (i + 1) g2 (first ++ [g.steps.length]) = some R) := by
  rw [M3.grow] at h
  split at h
  · rename_i hc
    exact Or.inl ⟨hc, (Option.some.inj h).symm⟩
  · rename_i hc
    split at h
    · rename_i hs
      split at h
      · cases h
      · rename_i g2 hg
        exact Or.inr ⟨hc, hs, g2, hg, h⟩
    · cases h
theorem graph_spec {v : M2.View} {R : M3.GG} (h : M3.graph v = some R) : ∃ g g2 first on, M3.pairX v.k.ahead.length v.k.ahead.length 0 ⟨[], List.replicate ((v.k.ahead.length * 4) * (v.k.ahead.length * 4)) 0, []⟩ = some g ∧ M3.grow v 10000 0 g [] = some (g2, first) ∧ g2.pairs.length ≤ 100000 ∧ g2.steps.length ≤ 100000 ∧ M3.findOn g2.pairs.length g2.steps 10000 none g2.pairs.length (List.replicate g2.pairs.length 0) = some on ∧ R = ⟨g2, g.pairs.length, first ++ [g2.steps.length], on⟩ := by
  unfold M3.graph at h
  split at h
  · cases h
  · rename_i g hg
    split at h
    · cases h
    · rename_i g2 first hg2
      split at h
      · rename_i hc
        split at h
        · cases h
        · rename_i on hon
          exact ⟨g, g2, first, on, hg, hg2, hc.1, hc.2, hon, (Option.some.inj h).symm⟩
      · cases h

/-- The graph while it is made. -/
structure PG (w : World) (v : M2.View) (base G : Nat) (ka kw kh kd vp c5 vn vs vf c9 : Value) (g : M3.Gr) (first : List Nat) (wr : World) : Prop where
  ng : NG v base G ka kw kh kd vp c5 vn vs vf c9 g.pairs g.nums g.steps wr
  fi : Row InE wr vf first
  md : Mod No w wr
  fp : ∀ q, vp.ownBlock = some q → w.heap.size ≤ q
  fs : ∀ q, vs.ownBlock = some q → w.heap.size ≤ q
  ff : ∀ q, vf.ownBlock = some q → w.heap.size ≤ q
  fn : ∀ q, vn.ownBlock = some q → w.heap.size ≤ q
  nf : ∀ q, vf.ownBlock = some q → vn.ownBlock ≠ some q
  ok : GOk v.k.ahead.length g
  oG : w.heap.size ≤ G
section
variable {w : World} {v : M2.View} {base G : Nat} {ka kw kh kd vp c5 vn vs vf c9 : Value} {g : M3.Gr} {first : List Nat} {wr wr' : World}
theorem PG.no (h : PG w v base G ka kw kh kd vp c5 vn vs vf c9 g first wr) (hm : Mod No wr wr') : PG w v base G ka kw kh kd vp c5 vn vs vf c9 g first wr' := ⟨h.ng.no hm, h.fi.no hm, h.md.no hm, h.fp, h.fs, h.ff, h.fn, h.nf, h.ok, h.oG⟩
theorem PG.num {vp' : Value} {ps : List M2.Pair} {ns : List Nat} {p : M2.Pair} {k : Nat} (h : PG w v base G ka kw kh kd vp c5 vn vs vf c9 g first wr) (hg : M3.gnum v.k.ahead.length g.pairs g.nums p = some (k, ps, ns)) (hn : NG v base G ka kw kh kd vp' c5 vn vs vf c9 ps ns g.steps wr') (hf : Fresh wr vp vp') (hm : Mod (Nu G vp vn) wr wr') : PG w v base G ka kw kh kd vp' c5 vn vs vf c9 ⟨ps, ns, g.steps⟩ first wr' := by
  have hok := gnum_ok h.ok.nl h.ok.nv hg
  have hsz := h.md.size
  refine ⟨hn, h.fi.mod hm (fun q hq e => ?_), h.md.trans' hm (fun q hq e => ?_), fun q hq => ?_, h.fs, h.ff, h.fn, h.nf, ⟨hok.1, hok.2.1⟩, h.oG⟩
  · rcases e with e | e | e
    · exact h.ng.blk.apart h.fi (by decide) (by rw [hq, e])
    · exact h.fi.apart h.ng.pr (by decide) hq e
    · exact h.nf q hq e
  · rcases e with e | e | e
    · have := h.oG; omega
    · have := h.fp q e; omega
    · have := h.fn q e; omega
  · rcases hf q hq with e | e
    · exact h.fp q e
    · omega
theorem PG.lead {vp' vs' : Value} {g' : M3.Gr} (h : PG w v base G ka kw kh kd vp c5 vn vs vf c9 g first wr) (hl : LG wr v base G ka kw kh kd vp c5 vn vs vf c9 vp' vs' g' wr') : PG w v base G ka kw kh kd vp' c5 vn vs' vf c9 g' first wr' := by
  have hsz := h.md.size
  refine ⟨hl.ng, h.fi.mod hl.md (fun q hq e => ?_), h.md.trans' hl.md (fun q hq e => ?_), fun q hq => ?_, fun q hq => ?_, h.ff, h.fn, h.nf, hl.ok, h.oG⟩
  · rcases e with e | e | e | e
    · exact h.ng.blk.apart h.fi (by decide) (by rw [hq, e])
    · exact h.fi.apart h.ng.pr (by decide) hq e
    · exact h.nf q hq e
    · exact h.fi.apart h.ng.sp (by decide) hq e
  · rcases e with e | e | e | e
    · have := h.oG; omega
    · have := h.fp q e; omega
    · have := h.fn q e; omega
    · have := h.fs q e; omega
  · rcases hl.fp q hq with e | e
    · exact h.fp q e
    · omega
  · rcases hl.fs q hq with e | e
    · exact h.fs q e
    · omega
theorem PG.more {v2 : Value} {f2 : List Nat} (h : PG w v base G ka kw kh kd vp c5 vn vs vf c9 g first wr) (hg : wr.grownBy wr' vf.ownBlock) (hrow : Row InE wr' v2 f2) (hf : Fresh wr vf v2) : PG w v base G ka kw kh kd vp c5 vn vs v2 c9 g f2 (wr'.setCell ⟨G, 8, none⟩ v2) := by
  have hsz := h.md.size
  have hm := grown_mod hg
  have hs : Safe (fun k => vf.ownBlock = some k) wr 3 3 := Safe.row h.fi
  have hN : NG v base G ka kw kh kd vp c5 vn vs vf c9 g.pairs g.nums g.steps wr' := ⟨h.ng.blk.safe hm hs (by decide) (by decide), h.ng.vw.far hm hs (by decide) (by decide), h.ng.pr.safe hm hs (by decide) (by decide), h.ng.nu.mod hm (fun q hq e => h.nf q e hq), h.ng.sp.safe hm hs (by decide) (by decide)⟩
  have hmd : Mod No w wr' := h.md.trans' hm (fun q hq e => by have := h.ff q e; omega)
  refine ⟨hN.set8 v2, hrow.other (a := ⟨G, 8, none⟩) (hN.blk.apart hrow (by decide)) _, hmd.setCell (a := ⟨G, 8, none⟩) (fun e => absurd e (by have := h.oG; show ¬ G < w.heap.size; omega)) _, h.fp, h.fs, fun q hq => ?_, h.fn, fun q hq e => ?_, h.ok, h.oG⟩
  · rcases hf q hq with e | e
    · exact h.ff q e
    · omega
  · rcases hf q hq with e2 | e2
    · exact h.nf q e2 e
    · have := h.ng.nu.lt e; omega
theorem PG.set5 (h : PG w v base G ka kw kh kd vp c5 vn vs vf c9 g first wr) (u : Value) : PG w v base G ka kw kh kd vp u vn vs vf c9 g first (wr.setCell ⟨G, 5, none⟩ u) :=
  ⟨h.ng.set5 u, h.fi.other (a := ⟨G, 5, none⟩) (h.ng.blk.apart h.fi (by decide)) _, h.md.setCell (a := ⟨G, 5, none⟩) (fun e => absurd e (by have := h.oG; show ¬ G < w.heap.size; omega)) _, h.fp, h.fs, h.ff, h.fn, h.nf, h.ok, h.oG⟩
end
/-- What newGraph gives. -/
def GPost (R : M3.GG) (v : M2.View) (base : Nat) (ka kw kh kd : Value) (w : World) (e : Ending) (w' : World) : Prop := Mod No w w' ∧ ∃ vp vn vs vf vo, e = .returned (.agg #[ka, kw, kh, kd, vp, .int .i64 (R.st : Int), vn, vs, vf, vo]) ∧ VP v base ka kw kh kd w' ∧ Row PaE w' vp R.g.pairs ∧ IsSl vn ∧ Row SpE w' vs R.g.steps ∧ Row InE w' vf R.first ∧ Row IzE w' vo R.on
end Go.Proofs.YtmbapmbpnnaanabGreatDoor
