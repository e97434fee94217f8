import Derived.WalkKit
import Derived.WalkSpells
import Derived.WalkLawsBesides
import Derived.BigQuiet
import Derived.Deep.QuietTactic
import Derived.Handy
import Derived.Deep.RegionHeld3
import Derived.Deep.AppendLies
import Derived.Deep.DrawnRows
import Derived.Laws.IdiomStrings
import Derived.Lib.UnsafeStr
import Derived.Lib.Strings
import Derived.Lib.IndexBytes
import Derived.OwnWalk
import Derived.KernelRfl
import Derived.Test.YtmbapmbpnnaanabGreatDoorProg
import Derived.Laws.BitsAllLaws
namespace Go.Proofs.YtmbapmbpnnaanabGreatDoor
open Go.RowKit

/-- Only blocks of S, of those that were there, may have changed. -/
structure Mod (S : Nat → Prop) (w w' : World) : Prop where
  os : w'.os = w.os
  tape : w'.tape = w.tape
  output : w'.output = w.output
  size : w.heap.size ≤ w'.heap.size
  block : ∀ k, k < w.heap.size → ¬ S k → w'.heap[k]? = w.heap[k]?

abbrev No : Nat → Prop := fun _ => False

theorem Mod.refl (S : Nat → Prop) (w : World) : Mod S w w := ⟨rfl, rfl, rfl, Nat.le_refl _, fun _ _ _ => rfl⟩
theorem Mod.trans' {S S' : Nat → Prop} {w w1 w2 : World} (h1 : Mod S w w1) (h2 : Mod S' w1 w2) (hs : ∀ k, k < w.heap.size → S' k → S k) : Mod S w w2 :=
  ⟨h2.os.trans h1.os, h2.tape.trans h1.tape, h2.output.trans h1.output, Nat.le_trans h1.size h2.size,
   fun k hk hn => (h2.block k (Nat.lt_of_lt_of_le hk h1.size) (fun h => hn (hs k hk h))).trans (h1.block k hk hn)⟩
theorem Mod.trans {S : Nat → Prop} {w w1 w2 : World} (h1 : Mod S w w1) (h2 : Mod S w1 w2) : Mod S w w2 := h1.trans' h2 fun _ _ h => h
theorem Mod.no {S : Nat → Prop} {w w1 w2 : World} (h1 : Mod S w w1) (h2 : Mod No w1 w2) : Mod S w w2 := h1.trans' h2 fun _ _ h => h.elim
theorem Mod.more {S S' : Nat → Prop} {w w1 : World} (h : Mod S' w w1) (hs : ∀ k, k < w.heap.size → S' k → S k) : Mod S w w1 := (Mod.refl S w).trans' h hs
theorem Mod.alloc {S : Nat → Prop} {w w1 : World} (h : Mod S w w1) (o : Obj) : Mod S w (w1.alloc o) :=
  ⟨h.os, h.tape, h.output, by simp; exact Nat.le_succ_of_le h.size, fun k hk hn => (Below.heap_alloc _ _ _ (Nat.lt_of_lt_of_le hk h.size)).trans (h.block k hk hn)⟩
theorem Mod.setCell {S : Nat → Prop} {w w1 : World} (h : Mod S w w1) {a : Addr} (ha : a.block < w.heap.size → S a.block) (v : Value) : Mod S w (w1.setCell a v) :=
  ⟨h.os, h.tape, h.output, by simpa [World.setCell] using h.size, fun k hk hn => (Below.heap_setCell _ _ _ _ (fun e => hn (by rw [e]; exact ha (by rw [← e]; exact hk)))).trans (h.block k hk hn)⟩
theorem Mod.grown {S : Nat → Prop} {w w1 w2 : World} {row : Option Nat} (h : Mod S w w1) (hg : w1.grownBy w2 row) (hr : ∀ g, row = some g → g < w.heap.size → S g) : Mod S w w2 :=
  ⟨hg.os.trans h.os, hg.tape.trans h.tape, hg.output.trans h.output, Nat.le_trans h.size hg.size,
   fun k hk hn => (hg.block k (Nat.lt_of_lt_of_le hk h.size) (fun e => hn (hr k e.symm hk))).trans (h.block k hk hn)⟩
theorem Mod.drewN {S : Nat → Prop} {w w1 : World} (h : Mod S w w1) (n : Nat) : Mod S w (w1.drewN n) := ⟨h.os, h.tape, h.output, h.size, h.block⟩
theorem Mod.drew {S : Nat → Prop} {w w1 : World} (h : Mod S w w1) : Mod S w w1.drew := ⟨h.os, h.tape, h.output, h.size, h.block⟩
theorem Mod.below {w w1 : World} (h : Mod No w w1) : Below w.heap.size w w1 := ⟨h.os, h.tape, h.output, h.size, fun k hk => h.block k hk (fun x => x)⟩
theorem Mod.of_below {S : Nat → Prop} {w w1 : World} (h : Below w.heap.size w w1) : Mod S w w1 := ⟨h.os, h.tape, h.output, h.size, fun k hk _ => h.block k hk⟩
theorem Mod.of_grown {S : Nat → Prop} {w w1 : World} {row : Option Nat} (h : w.grownBy w1 row) (hr : ∀ g, row = some g → S g) : Mod S w w1 := (Mod.refl S w).grown h fun g e _ => hr g e

/-- The block b holds these cells. -/
def Blk (w : World) (b : Nat) (cs : List Value) (T : Nat) : Prop := w.heap[b]? = some (.cells cs.toArray T (0, 0))
theorem Blk.lt {w b cs T} (h : Blk w b cs T) : b < w.heap.size := (Array.getElem?_eq_some_iff.1 h).1
theorem Blk.cell {w b cs T} (h : Blk w b cs T) (j : Nat) {v : Value} (hv : cs[j]? = some v) : w.cell? ⟨b, j, none⟩ = some v := by
  simp [World.cell?, show w.heap[b]? = _ from h, hv]
theorem Blk.free {w b cs T} (h : Blk w b cs T) (j : Nat) : w.frozen? ⟨b, j, none⟩ = false := by simp [World.frozen?, show w.heap[b]? = _ from h]
theorem Blk.cellA {w b cs T} (h : Blk w b cs T) (j : Nat) {v : Value} (hv : cs[j]? = some v) (o : Obj) : (w.alloc o).cell? ⟨b, j, none⟩ = some v := by
  have e : (w.alloc o).heap[b]? = w.heap[b]? := Below.heap_alloc _ _ _ (Array.getElem?_eq_some_iff.1 h).1
  simp [World.cell?, e, show w.heap[b]? = _ from h, hv]
theorem Blk.freeA {w b cs T} (h : Blk w b cs T) (j : Nat) (o : Obj) : (w.alloc o).frozen? ⟨b, j, none⟩ = false := by
  have e : (w.alloc o).heap[b]? = w.heap[b]? := Below.heap_alloc _ _ _ (Array.getElem?_eq_some_iff.1 h).1
  simp [World.frozen?, e, show w.heap[b]? = _ from h]
theorem Blk.mod {w w' b cs T S} (h : Blk w b cs T) (hm : Mod S w w') (hn : ¬ S b) : Blk w' b cs T := (hm.block b h.lt hn).trans h
theorem Blk.alloc {w b cs T} (h : Blk w b cs T) (o : Obj) : Blk (w.alloc o) b cs T := (Below.heap_alloc _ _ _ h.lt).trans h
theorem Blk.drewN {w b cs T} (h : Blk w b cs T) (n : Nat) : Blk (w.drewN n) b cs T := h
theorem Blk.drew {w b cs T} (h : Blk w b cs T) : Blk w.drew b cs T := h
theorem Blk.set {w b cs T} (h : Blk w b cs T) (j : Nat) (v : Value) : Blk (w.setCell ⟨b, j, none⟩ v) b (cs.set j v) T := by
  simp [Blk, World.setCell, Array.getElem?_modify, show w.heap[b]? = _ from h]
theorem Blk.other {w b cs T} (h : Blk w b cs T) {a : Addr} (hne : b ≠ a.block) (v : Value) : Blk (w.setCell a v) b cs T := (Below.heap_setCell _ _ _ _ hne).trans h
theorem Blk.grown {w w' b cs T} {row : Option Nat} (h : Blk w b cs T) (hg : w.grownBy w' row) (hne : some b ≠ row) : Blk w' b cs T := (hg.block b h.lt hne).trans h
theorem Blk.new (w : World) (cs : List Value) (T : Nat) : Blk (w.alloc (.cells cs.toArray T)) w.heap.size cs T := heap_alloc_new w _

/-- How things lie in a slice: the elements' type, so many cells each. -/
structure Enc (α : Type) where
  T : Nat
  c : Nat
  f : α → List Value
  len : ∀ a, (f a).length = c
def Row {α : Type} (E : Enc α) (w : World) (v : Value) (xs : List α) : Prop := w.ownsRow 0 E.T E.c v xs.length (xs.flatMap E.f)

section
variable {α : Type} {E : Enc α} {w w' : World} {v : Value} {xs : List α}
theorem Row.mod {S : Nat → Prop} (h : Row E w v xs) (hm : Mod S w w') (hn : ∀ g, v.ownBlock = some g → ¬ S g) : Row E w' v xs := by
  refine ⟨h.1, ?_⟩
  rcases h.2 with h2 | ⟨g, cap, cur, rfl, hg, hh, r⟩
  · exact .inl h2
  · exact .inr ⟨g, cap, cur, rfl, hg, (hm.block g (Array.getElem?_eq_some_iff.1 hh).1 (hn g rfl)).trans hh, r⟩
theorem Row.no (h : Row E w v xs) (hm : Mod No w w') : Row E w' v xs := h.mod hm fun _ _ x => x
theorem Row.lt (h : Row E w v xs) {g : Nat} (hg : v.ownBlock = some g) : g < w.heap.size := (World.ownsRow.lt h g hg).2
theorem Row.alloc (h : Row E w v xs) (o : Obj) : Row E (w.alloc o) v xs := h.no ((Mod.refl _ _).alloc o)
theorem Row.other (h : Row E w v xs) {a : Addr} (hne : v.ownBlock ≠ some a.block) (u : Value) : Row E (w.setCell a u) v xs :=
  h.mod (S := fun k => k = a.block) ((Mod.refl (fun k => k = a.block) w).setCell (a := a) (fun _ => rfl) u) fun g hg e => hne (by rw [hg, e])
theorem Row.grown {row : Option Nat} (h : Row E w v xs) (hg : w.grownBy w' row) (hne : v.ownBlock = none ∨ v.ownBlock ≠ row) : Row E w' v xs := World.ownsRow.kept h hg hne
theorem Row.drewN (h : Row E w v xs) (n : Nat) : Row E (w.drewN n) v xs := h
theorem Row.drew (h : Row E w v xs) : Row E w.drew v xs := h
theorem Row.form (h : Row E w v xs) (h0 : 0 < xs.length) : ∃ g cap, v = .slice (some ⟨g, 0, none⟩) xs.length cap ∧ g < w.heap.size ∧ xs.length ≤ cap := by
  rcases h.2 with ⟨_, h2⟩ | ⟨g, cap, cur, rfl, hg, hh, r⟩
  · omega
  · exact ⟨g, cap, rfl, (Array.getElem?_eq_some_iff.1 hh).1, r.1⟩
/-- Whatever the length: a slice. -/
theorem Row.any (h : Row E w v xs) : ∃ a cap, v = .slice a xs.length cap ∧ (a = none ∨ ∃ g, a = some ⟨g, 0, none⟩ ∧ g < w.heap.size) ∧ xs.length ≤ cap ∧ xs.length ≤ maxLen := by
  rcases h.2 with ⟨rfl, h2⟩ | ⟨g, cap, cur, rfl, hg, hh, r⟩
  · exact ⟨none, 0, by rw [h2], .inl rfl, by omega, by rw [h2]; unfold maxLen; omega⟩
  · exact ⟨_, cap, rfl, .inr ⟨g, rfl, (Array.getElem?_eq_some_iff.1 hh).1⟩, r.1, Nat.le_trans r.1 r.2.1⟩
theorem flat_get : ∀ (xs : List α) (i j : Nat) (x : α), xs[i]? = some x → j < E.c → (xs.flatMap E.f)[i * E.c + j]? = (E.f x)[j]?
  | [], i, j, x, h, _ => by simp at h
  | a :: xs, 0, j, x, h, hj => by
    simp at h
    subst h
    rw [List.flatMap_cons, List.getElem?_append_left (by rw [E.len]; omega), Nat.zero_mul, Nat.zero_add]
  | a :: xs, i + 1, j, x, h, hj => by
    simp at h
    rw [List.flatMap_cons, List.getElem?_append_right (by rw [E.len, Nat.succ_mul]; omega), E.len, ← flat_get xs i j x h hj]
    congr 1
    rw [Nat.succ_mul]; omega
theorem addr_add (g j : Nat) : (⟨g, 0, none⟩ : Addr).add j = ⟨g, j, none⟩ := by unfold Addr.add; split <;> simp_all
theorem Row.cell {g n cap : Nat} (h : Row E w (.slice (some ⟨g, 0, none⟩) n cap) xs) (i j : Nat) {x : α} {u : Value} (hx : xs[i]? = some x) (hu : (E.f x)[j]? = some u) : w.cell? ⟨g, i * E.c + j, none⟩ = some u := by
  have hj : j < E.c := by rw [← E.len x]; exact (List.getElem?_eq_some_iff.1 hu).1
  have := World.ownsRow.cells h (g := g) rfl (i * E.c + j) u (by rw [flat_get xs i j x hx hj]; exact hu)
  rwa [addr_add] at this
theorem Row.free {g n cap : Nat} (h : Row E w (.slice (some ⟨g, 0, none⟩) n cap) xs) (j : Nat) : w.frozen? ⟨g, j, none⟩ = false := by
  rcases h.2 with ⟨h1, _⟩ | ⟨g', cap', cur, e, hg, hh, r⟩
  · cases h1
  · cases e
    simp [World.frozen?, hh]
theorem flat_set : ∀ (xs : List α) (i j : Nat) (x x' : α) (u : Value), xs[i]? = some x → j < E.c → E.f x' = (E.f x).set j u → (xs.set i x').flatMap E.f = (xs.flatMap E.f).set (i * E.c + j) u
  | [], i, j, x, x', u, h, _, _ => by simp at h
  | a :: xs, 0, j, x, x', u, h, hj, he => by
    simp at h
    subst h
    rw [List.set_cons_zero, List.flatMap_cons, List.flatMap_cons, he, Nat.zero_mul, Nat.zero_add, List.set_append_left _ _ (by rw [E.len]; omega)]
  | a :: xs, i + 1, j, x, x', u, h, hj, he => by
    simp at h
    rw [List.set_cons_succ, List.flatMap_cons, List.flatMap_cons, flat_set xs i j x x' u h hj he, List.set_append_right _ _ (by rw [E.len, Nat.succ_mul]; omega), E.len]
    congr 2
    rw [Nat.succ_mul]; omega
theorem Row.put {g n cap : Nat} (h : Row E w (.slice (some ⟨g, 0, none⟩) n cap) xs) (i j : Nat) {x x' : α} {u : Value} (hx : xs[i]? = some x) (hj : j < E.c) (hu : E.f x' = (E.f x).set j u) :
    Row E (w.setCell ⟨g, i * E.c + j, none⟩ u) (.slice (some ⟨g, 0, none⟩) n cap) (xs.set i x') := by
  have hi : i < xs.length := (List.getElem?_eq_some_iff.1 hx).1
  have hlt : i * E.c + j < xs.length * E.c := by
    have : (i + 1) * E.c ≤ xs.length * E.c := Nat.mul_le_mul_right _ hi
    rw [Nat.succ_mul] at this; omega
  refine ⟨?_, ?_⟩
  · rw [flat_set xs i j x x' u hx hj hu]; simp [h.1]
  rcases h.2 with ⟨h1, _⟩ | ⟨g', cap', cur, e, hg, hh, r1, r2, r3, r4⟩
  · cases h1
  · cases e
    refine .inr ⟨g, cap, cur.set! (i * E.c + j) u, by rw [List.length_set], Nat.zero_le _, ?_, by rw [List.length_set]; exact r1, r2, by simpa using r3, ?_⟩
    · simp [World.setCell, Array.getElem?_modify, hh]
    · rw [List.length_set, flat_set xs i j x x' u hx hj hu, ← r4]
      rw [show (cur.set! (i * E.c + j) u).toList = cur.toList.set (i * E.c + j) u by simp, List.take_set]
/-- One element more: what append gives. -/
theorem Row.snoc {x : α} {u : Value} (h : w.ownsRow 0 E.T E.c u (xs.length + 1) (xs.flatMap E.f ++ E.f x)) : Row E w u (xs ++ [x]) := by
  unfold Row
  simpa using h
theorem Row.nil (E : Enc α) (w : World) : Row E w (.slice none 0 0) [] := World.ownsRow_nil _ _ _ _
theorem Row.of_block {b : Nat} (h : Blk w b (xs.flatMap E.f) E.T) (hl : xs.length ≤ maxLen) : Row E w (.slice (some ⟨b, 0, none⟩) xs.length xs.length) xs := by
  have e : (xs.flatMap E.f).length = xs.length * E.c := by
    clear h hl
    induction xs with
    | nil => simp
    | cons a xs ih => simp [E.len, ih, Nat.succ_mul, Nat.add_comm]
  exact ⟨e, .inr ⟨b, xs.length, _, rfl, Nat.zero_le _, h, Nat.le_refl _, hl, by simpa using e, by rw [← e]; simp only [List.take_length]⟩⟩
end

theorem wrap_ret {k : IntKind} {a b : Int} (h : a = b) : Ending.returned (.int k a) = .returned (.int k b) := by rw [h]
theorem ret_bool {a b : Bool} (h : a = b) : Ending.returned (.bool a) = .returned (.bool b) := by rw [h]
theorem beq_cast (m n : Nat) : ((m : Int) == (n : Int)) = decide (m = n) := by
  rw [Bool.eq_iff_iff]
  simp
  omega
end Go.Proofs.YtmbapmbpnnaanabGreatDoor
/- What the program does with rules, as plain functions on lists: 'none' where fuel or an index fails. -/
namespace Go.Proofs.YtmbapmbpnnaanabGreatDoor.Mir
abbrev By := List UInt8

/-! Plain helpers: an index that must be there; a number that must be small. -/
def lim : Nat := 1000000
def ok (b : Bool) : Option Unit := if b then some () else none
def fits (n : Nat) : Option Unit := ok (decide (n ≤ lim))

structure R4 where
  a : Nat
  b : Nat
  c : Nat
  d : Nat
def R4.get (r : R4) : Nat → Option Nat
  | 0 => some r.a | 1 => some r.b | 2 => some r.c | 3 => some r.d | _ => none

/-! letter -/
def isL (c : UInt8) : Bool := decide (97 ≤ c.toNat ∧ c.toNat ≤ 100)
def isS (c : UInt8) : Bool := isL c || decide (65 ≤ c.toNat ∧ c.toNat ≤ 68)
def num (c : UInt8) : Nat := if isL c then c.toNat - 97 else 0
def common : By → By → Nat
  | x :: v, y :: w => if x = y then common v w + 1 else 0
  | _, _ => 0

/-! rule: nets -/
structure Place where
  t : List Bool
  n : Nat
structure Piece where
  e : Bool
  f : Nat
  l : Nat
def bit (p : Nat) : Nat := 1 <<< p
def has (s p : Nat) : Bool := !(decide (s &&& bit p = 0))
def leadM (ps : List Place) (fr tt : Nat) (i : Nat) : List Place :=
  match ps with
  | [] => []
  | p :: ps => (if has fr i then { p with n := p.n ||| tt } else p) :: leadM ps fr tt (i + 1)
def joinM (ps : List Place) (x y : Piece) : Piece × List Place :=
  (⟨x.e && y.e, if x.e then x.f ||| y.f else x.f, if y.e then y.l ||| x.l else y.l⟩, leadM ps x.l y.f 0)
def addM (ps : List Place) (t : List Bool) : Option (Piece × List Place) :=
  if ps.length < 32 then some (⟨false, bit ps.length, bit ps.length⟩, ps ++ [⟨t, 0⟩]) else none
def repM (ps : List Place) (x : Piece) : Piece × List Place := ({ x with e := true }, leadM ps x.l x.f 0)
def eitherM (x y : Piece) : Piece := ⟨x.e || y.e, x.f ||| y.f, x.l ||| y.l⟩
def allOf : By → List Bool → List Bool
  | [], t => t
  | c :: cs, t => allOf cs (t.set (num c) true)
def none4 : List Bool := [false, false, false, false]
def allBut (w : By) : List Bool := (allOf w none4).map not
def rising : By → Bool
  | a :: b :: r => decide (a.toNat < b.toNat) && rising (b :: r)
  | _ => true

/-! the parser -/
structure PS where
  k : Nat
  bad : Bool
  ps : List Place
def sees (s : By) (c : UInt8) (p : PS) : Bool := !p.bad && decide (s[p.k]? = some c)
def takeM (s : By) (c : UInt8) (p : PS) : PS := if sees s c p then { p with k := p.k + 1 } else { p with bad := true }
def skipM (s : By) (c : UInt8) (p : PS) : PS := if sees s c p then { p with k := p.k + 1 } else p
def failM (p : PS) : PS := { p with bad := true }
def runM (P : UInt8 → Bool) (s : By) (p : PS) : By × PS := let r := (s.drop p.k).takeWhile P; (r, { p with k := p.k + r.length })
def letterM (s : By) (p : PS) : By × PS :=
  match s[p.k]? with
  | none => ([], failM p)
  | some c => if isL c then ([c], { p with k := p.k + 1 }) else ([], failM p)
def wordM : By → Piece → List Place → Option (Piece × List Place)
  | [], w, ps => some (w, ps)
  | c :: cs, w, ps => match addM ps (allOf [c] none4) with
    | none => none
    | some (q, ps1) => let r := joinM ps1 w q; wordM cs r.1 r.2
def rowEnd (s : By) (p : PS) : Bool := p.bad || decide (p.k = s.length) || sees s 124 p || sees s 41 p
def starsM (s : By) : Nat → Piece → PS → Option (Piece × PS)
  | 0, _, _ => none
  | f + 1, x, p => if sees s 42 p then
      let r := repM p.ps x
      starsM s f r.1 { p with k := p.k + 1, ps := r.2 }
    else some (x, p)
def setM (s : By) (p : PS) : Option (Piece × PS) :=
  let p1 := takeM s 91 p
  let o := sees s 94 p1
  let p2 := skipM s 94 p1
  let r := runM isL s p2
  let p3 := takeM s 93 r.2
  let p4 := if r.1.isEmpty || !rising r.1 then failM p3 else p3
  match addM p4.ps (if o then allBut r.1 else allOf r.1 none4) with
  | none => none
  | some (q, ps) => some (q, { p4 with ps := ps })
/-- The parser of contexts: 0: a context, 1: the rows behind the first, 2: a row, 3: a part. -/
def prs (s : By) : Nat → Nat → Nat → Piece → PS → Option (Piece × PS)
  | 0, _, _, _, _ => none
  | f + 1, 0, d, _, p => match prs s f 2 d ⟨true, 0, 0⟩ p with
    | none => none
    | some (w, p1) => prs s f 1 d w p1
  | f + 1, 1, d, w, p => if sees s 124 p then
      match prs s f 2 d ⟨true, 0, 0⟩ { p with k := p.k + 1 } with
      | none => none
      | some (r, p1) => prs s f 1 d (eitherM w r) p1
    else some (w, p)
  | f + 1, 2, d, w, p => if rowEnd s p then some (w, p) else
      match prs s f 3 d ⟨false, 0, 0⟩ p with
      | none => none
      | some (x, p1) => match starsM s f x p1 with
        | none => none
        | some (x, p2) => let r := joinM p2.ps w x; prs s f 2 d r.1 { p2 with ps := r.2 }
  | f + 1, _, d, _, p =>
    if sees s 40 p then
      if 3 ≤ d then some (⟨false, 0, 0⟩, failM p) else
      match prs s f 0 (d + 1) ⟨false, 0, 0⟩ (takeM s 40 p) with
      | none => none
      | some (x, p1) => some (x, takeM s 41 p1)
    else if sees s 91 p then setM s p
    else if sees s 46 p then
      match addM p.ps (allBut []) with
      | none => none
      | some (q, ps) => some (q, { p with k := p.k + 1, ps := ps })
    else
      let r := letterM s p
      match addM r.2.ps (allOf r.1 none4) with
      | none => none
      | some (q, ps) => some (q, { r.2 with ps := ps })
def ctxM (s : By) (f d : Nat) (p : PS) : Option (Piece × PS) := prs s f 0 d ⟨false, 0, 0⟩ p
def rowsM (s : By) (f d : Nat) (w : Piece) (p : PS) : Option (Piece × PS) := prs s f 1 d w p
def rowM (s : By) (f d : Nat) (w : Piece) (p : PS) : Option (Piece × PS) := prs s f 2 d w p
def partM (s : By) (f d : Nat) (p : PS) : Option (Piece × PS) := prs s f 3 d ⟨false, 0, 0⟩ p
theorem ctxM_0 (s : By) (d : Nat) (p : PS) : ctxM s 0 d p = none := rfl
theorem ctxM_1 (s : By) (f d : Nat) (p : PS) : ctxM s (f + 1) d p = (match rowM s f d ⟨true, 0, 0⟩ p with
    | none => none
    | some (w, p1) => rowsM s f d w p1) := rfl
theorem rowsM_0 (s : By) (d : Nat) (w : Piece) (p : PS) : rowsM s 0 d w p = none := rfl
theorem rowsM_1 (s : By) (f d : Nat) (w : Piece) (p : PS) : rowsM s (f + 1) d w p = (if sees s 124 p then
      match rowM s f d ⟨true, 0, 0⟩ { p with k := p.k + 1 } with
      | none => none
      | some (r, p1) => rowsM s f d (eitherM w r) p1
    else some (w, p)) := rfl
theorem rowM_0 (s : By) (d : Nat) (w : Piece) (p : PS) : rowM s 0 d w p = none := rfl
theorem rowM_1 (s : By) (f d : Nat) (w : Piece) (p : PS) : rowM s (f + 1) d w p = (if rowEnd s p then some (w, p) else
      match partM s f d p with
      | none => none
      | some (x, p1) => match starsM s f x p1 with
        | none => none
        | some (x, p2) => let r := joinM p2.ps w x; rowM s f d r.1 { p2 with ps := r.2 }) := rfl
theorem partM_0 (s : By) (d : Nat) (p : PS) : partM s 0 d p = none := rfl
structure Rule where
  fr : By
  tt : By
  ps : List Place
  wh : Piece
def fuelP : Nat := 100
/-- none: out of fuel. some none: it is no rule. -/
def ruleM (s : By) : Option (Option Rule) :=
  let r := runM isL s ⟨0, false, []⟩
  let p1 := takeM s 62 r.2
  let t := runM isS s p1
  if r.1.isEmpty || decide (4 < r.1.length) || decide (4 < t.1.length) then some none else
  match wordM r.1 ⟨true, 0, 0⟩ [] with
  | none => none
  | some (m, ps) =>
    let p2 : PS := { t.2 with ps := ps }
    let fin (m : Piece) (p : PS) : Option (Option Rule) := if p.bad || decide (p.k < s.length) then some none else some (some ⟨r.1, t.1, p.ps, m⟩)
    if sees s 47 p2 then
      let p3 : PS := { p2 with k := p2.k + 1 }
      if 14 < s.length - p3.k then fin (joinM p3.ps m ⟨false, 0, 0⟩).1 (failM { p3 with ps := (joinM p3.ps m ⟨false, 0, 0⟩).2 }) else
      match ctxM s fuelP 0 p3 with
      | none => none
      | some (c, p4) => let j := joinM p4.ps m c; fin j.1 { p4 with ps := j.2 }
    else fin m p2
def lineEnd : By → Nat
  | [] => 0
  | c :: cs => if c = 10 then 0 else lineEnd cs + 1
/-- Read: rules, line, error. -/
def readM : Nat → By → Nat → List Rule → Option (List Rule × Nat × Nat)
  | 0, _, _, _ => none
  | f + 1, s, n, rs => if s.isEmpty then
      (if n < 1 ∨ 4 < n then some ([], 0, 2) else some (rs, 0, 0))
    else
      let e := lineEnd s
      match ruleM (s.take e) with
      | none => none
      | some none => some ([], n + 1, 1)
      | some (some r) => if e = s.length then some ([], n + 1, 1) else
        readM f (s.drop (e + 1)) (n + 1) (if n + 1 ≤ 4 then rs ++ [r] else rs)

end Go.Proofs.YtmbapmbpnnaanabGreatDoor.Mir
namespace Go.Proofs.YtmbapmbpnnaanabGreatDoor
open Go.RowKit

abbrev B32 : Nat := 4294967296
theorem bit_pow (p : Nat) : Mir.bit p = 2 ^ p := Nat.one_shiftLeft p
theorem bit_lt {p : Nat} (hp : p < 32) : Mir.bit p < B32 := by
  rw [bit_pow]
  exact Nat.lt_of_lt_of_le (Nat.pow_lt_pow_right (by omega) hp) (by decide)
theorem or_lt32 {a b : Nat} (ha : a < B32) (hb : b < B32) : a ||| b < B32 := Nat.or_lt_two_pow (n := 32) ha hb
theorem bit_int {p : Nat} (hp : p < 32) : (2 : Int) ^ p % 4294967296 = (Mir.bit p : Int) := by
  have h := bit_lt hp
  rw [bit_pow] at *
  have h2 : ((2 ^ p : Nat) : Int) = (2 : Int) ^ p := by simp
  unfold B32 at h
  rw [← h2]
  generalize 2 ^ p = x at h
  omega

theorem single_any (p : Nat) (hp : p < 32) (w : World) : Calls Tryz.prog 141 #[.int .i64 (p : Int)] w fun e w' => e = .returned (.int .u32 (Mir.bit p : Int)) ∧ w' = w := by
  have h0 : ¬ (p : Int) < 0 := by omega
  have HS : Hid _ := bit_int hp
  go_enter Tryz.func141, Tryz.ntmps141
  go_wp2
  go_ret
  exact ⟨wrap_ret HS.out, rfl⟩

theorem has_place (s p : Nat) (hs : s < B32) (hp : p < 32) (w : World) : Calls Tryz.prog 144 #[.int .u32 (s : Int), .int .i64 (p : Int)] w fun e w' => e = .returned (.bool (Mir.has s p)) ∧ w' = w := by
  have h1 := single_any p hp
  have h2 := u32_and_nat s (Mir.bit p) hs (bit_lt hp)
  have H3 : Hid (Mir.has s p = !(((s &&& Mir.bit p : Nat) : Int) == 0)) := by
    show Mir.has s p = _
    unfold Mir.has
    rw [show (0 : Int) = ((0 : Nat) : Int) by rfl, beq_cast]
  obtain ⟨x, hx⟩ : ∃ x, x = s &&& Mir.bit p := ⟨_, rfl⟩
  rw [← hx] at h2 H3
  clear hx
  go_enter Tryz.func144, Tryz.ntmps144
  go_wp2_with fail
  refine (h1 _).mono ?_
  rintro e w1 ⟨rfl, rfl⟩
  clear h1
  go_wp2
  go_ret
  exact ⟨ret_bool H3.out.symm, rfl⟩

theorem is_any (c : UInt8) (w : World) : Calls Tryz.prog 76 #[.int .u8 (c.toNat : Int)] w fun e w' => e = .returned (.bool (Mir.isL c)) ∧ w' = w := by
  by_cases h1 : (97 : Int) ≤ (c.toNat : Int)
  · by_cases h2 : (c.toNat : Int) ≤ 100
    · have e : Mir.isL c = true := by unfold Mir.isL; exact decide_eq_true ⟨by omega, by omega⟩
      rw [e]
      go_enter Tryz.func76, Tryz.ntmps76
      go_wp2
      go_ret
      exact ⟨rfl, rfl⟩
    · have e : Mir.isL c = false := by unfold Mir.isL; exact decide_eq_false (by omega)
      rw [e]
      go_enter Tryz.func76, Tryz.ntmps76
      go_wp2
      go_ret
      exact ⟨rfl, rfl⟩
  · have e : Mir.isL c = false := by unfold Mir.isL; exact decide_eq_false (by omega)
    rw [e]
    go_enter Tryz.func76, Tryz.ntmps76
    go_wp2
    go_ret
    exact ⟨rfl, rfl⟩

theorem said_any (c : UInt8) (w : World) : Calls Tryz.prog 140 #[.int .u8 (c.toNat : Int)] w fun e w' => e = .returned (.bool (Mir.isS c)) ∧ w' = w := by
  have his := is_any c w
  unfold Mir.isS
  cases hl : Mir.isL c with
  | true =>
    rw [hl] at his
    clear hl
    go_enter Tryz.func140, Tryz.ntmps140
    go_wp2_with fail
    refine his.mono ?_
    rintro e w1 ⟨rfl, rfl⟩
    clear his
    go_wp2
    go_ret
    exact ⟨rfl, rfl⟩
  | false =>
    rw [hl] at his
    clear hl
    rw [Bool.false_or]
    by_cases h3 : (65 : Int) ≤ (c.toNat : Int)
    · by_cases h2 : (c.toNat : Int) ≤ 68
      · rw [decide_eq_true (show 65 ≤ c.toNat ∧ c.toNat ≤ 68 by omega)]
        go_enter Tryz.func140, Tryz.ntmps140
        go_wp2_with fail
        refine his.mono ?_
        rintro e w1 ⟨rfl, rfl⟩
        clear his
        go_wp2
        go_ret
        exact ⟨rfl, rfl⟩
      · rw [decide_eq_false (show ¬ (65 ≤ c.toNat ∧ c.toNat ≤ 68) by omega)]
        go_enter Tryz.func140, Tryz.ntmps140
        go_wp2_with fail
        refine his.mono ?_
        rintro e w1 ⟨rfl, rfl⟩
        clear his
        go_wp2
        go_ret
        refine ⟨?_, rfl⟩
        show Ending.returned (.bool (decide ((c.toNat : Int) ≤ 68))) = _
        rw [decide_eq_false (by omega)]
    · rw [decide_eq_false (show ¬ (65 ≤ c.toNat ∧ c.toNat ≤ 68) by omega)]
      go_enter Tryz.func140, Tryz.ntmps140
      go_wp2_with fail
      refine his.mono ?_
      rintro e w1 ⟨rfl, rfl⟩
      clear his
      go_wp2
      go_ret
      exact ⟨rfl, rfl⟩

theorem number_any (c : UInt8) (w : World) : Calls Tryz.prog 47 #[.int .u8 (c.toNat : Int)] w fun e w' => e = .returned (.int .i64 (Mir.num c : Int)) ∧ w' = w := by
  have his := is_any c w
  unfold Mir.num
  cases hl : Mir.isL c with
  | true =>
    have h := of_decide_eq_true hl
    rw [hl] at his
    clear hl
    rw [if_pos rfl]
    go_enter Tryz.func47, Tryz.ntmps47
    go_wp2_with fail
    refine his.mono ?_
    rintro e w1 ⟨rfl, rfl⟩
    clear his
    go_wp2
    go_ret
    have hb : ((({ data := #[97, 98, 99, 100] } : ByteArray)[0]).toNat : Int) = 97 := rfl
    exact ⟨wrap_ret (by omega), rfl⟩
  | false =>
    rw [hl] at his
    clear hl
    rw [if_neg (by simp)]
    go_enter Tryz.func47, Tryz.ntmps47
    go_wp2_with fail
    refine his.mono ?_
    rintro e w1 ⟨rfl, rfl⟩
    clear his
    go_wp2
    go_ret
    exact ⟨rfl, rfl⟩
theorem num_lt (c : UInt8) : Mir.num c < 4 := by
  unfold Mir.num
  split
  · rename_i h
    have := of_decide_eq_true h
    omega
  · omega

/-- The classes of bytes that Compile comes to: letters that texts are of (0), letters that may be said (1). -/
def clsP (d : Bool) : UInt8 → Bool := if d = true then Mir.isS else Mir.isL
def clsN (d : Bool) : Int := if d = true then 1 else 0
theorem has_any (d : Bool) (c : UInt8) (w : World) : Calls Tryz.prog 114 #[.int .i64 (clsN d), .int .u8 (c.toNat : Int)] w fun e w' => e = .returned (.bool (clsP d c)) ∧ w' = w := by
  cases d with
  | true =>
    have h := said_any c w
    show Calls Tryz.prog 114 #[.int .i64 1, .int .u8 (c.toNat : Int)] w fun e w' => e = .returned (.bool (Mir.isS c)) ∧ w' = w
    go_enter Tryz.func114, Tryz.ntmps114
    go_wp2_with fail
    refine h.mono ?_
    rintro e w1 ⟨rfl, rfl⟩
    clear h
    go_wp2
    go_ret
    exact ⟨rfl, rfl⟩
  | false =>
    have h := is_any c w
    show Calls Tryz.prog 114 #[.int .i64 0, .int .u8 (c.toNat : Int)] w fun e w' => e = .returned (.bool (Mir.isL c)) ∧ w' = w
    go_enter Tryz.func114, Tryz.ntmps114
    go_wp2_with fail
    refine h.mono ?_
    rintro e w1 ⟨rfl, rfl⟩
    clear h
    go_wp2
    go_ret
    exact ⟨rfl, rfl⟩
end Go.Proofs.YtmbapmbpnnaanabGreatDoor
