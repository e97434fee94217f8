import Derived.Test.YtmbapmbpnnaanabDoorU
import Derived.Test.YtmbapmbpnnaanabDoorI
import Derived.Lib.AppendStr
import Derived.Lib.AppendIntMem
import Derived.Lib.ItoaLen
namespace Go.Proofs.YtmbapmbpnnaanabDoor
open Go.RowKit

def wtext (l : List UInt8) : List UInt8 := if l = [] then [45] else l

/-- The bytes l lie in a row of the call's own. -/
abbrev Buf (B : Nat) (w : World) (v : Value) (l : List UInt8) : Prop := w.ownsRow B 5 1 v l.length (Lib.byteCells l)

theorem Buf.more {B : Nat} {w : World} {v : Value} {l m : List UInt8} (h : w.ownsRow B 5 1 v (l.length + m.length) (Lib.byteCells l ++ Lib.byteCells m)) : Buf B w v (l ++ m) := by
  show w.ownsRow B 5 1 v (l ++ m).length (Lib.byteCells (l ++ m))
  rw [List.length_append, Lib.byteCells_append]
  exact h
theorem strCells_eq (s : ByteArray) : Lib.strCells s = Lib.byteCells s.data.toList := by
  simp [Lib.strCells, Lib.byteCells]
theorem size_data (s : ByteArray) : s.size = s.data.toList.length := by
  show s.data.size = _
  simp

/-- Blocks of states stand as they stood. -/
def K38 (w w' : World) : Prop := ∀ (H : Nat) (a : Array Value) (fr : Nat × Nat), w.heap[H]? = some (.cells a 38 fr) → w'.heap[H]? = some (.cells a 38 fr)
theorem K38.refl (w : World) : K38 w w := fun _ _ _ h => h
theorem K38.trans {a b c : World} (h : K38 a b) (k : K38 b c) : K38 a c := fun H x fr hx => k H x fr (h H x fr hx)
theorem K38.alloc (w : World) (o : Obj) : K38 w (w.alloc o) := fun H a fr h => by
  rw [Below.heap_alloc _ _ _ (Array.getElem?_eq_some_iff.1 h).1]; exact h
theorem K38.grown {w w' : World} {B n : Nat} {v : Value} {xs : List Value} (ho : w.ownsRow B 5 1 v n xs) (hg : w.grownBy w' v.ownBlock) : K38 w w' := fun H a fr h => by
  rw [hg.block H (Array.getElem?_eq_some_iff.1 h).1 ?_]
  · exact h
  · intro e
    rcases ho.2 with ⟨rfl, _⟩ | ⟨g, cap, cur, rfl, _, hgg, _⟩
    · cases e
    · cases e
      rw [h] at hgg
      cases hgg
theorem K38.none {w w' : World} (hg : w.grownBy w' none) : K38 w w' := fun H a fr h => (hg.block H (Array.getElem?_eq_some_iff.1 h).1 (by simp)).trans h
theorem grow_grown (w : World) (k : Nat) (os : Array Obj) : w.grownBy (Sort.grow (w.drewN k) os) none :=
  ⟨rfl, rfl, rfl, by simp [Sort.grow], fun i hi _ => by
    show (w.heap ++ os)[i]? = _
    rw [Array.getElem?_append_left hi]⟩

set_option maxHeartbeats 400000 in
theorem appendWord_any (B : Nat) (v : Value) (l : List UInt8) (s : ByteArray) (w : World) (hown : Buf B w v l) (hB : B ≤ w.heap.size) (hlim : l.length + s.size + 1 ≤ 100000000) :
    Calls Tryd.prog 9 #[v, .string s] w fun e w' => ∃ v', e = .returned v' ∧ Buf B w' v' (l ++ wtext s.data.toList) ∧ Below B w w' ∧ K38 w w' := by
  obtain ⟨i0, hinf, hz0, hz1, hz2⟩ := info_parts Tryd.info5
  have hvb := fun k h => (hown.lt k h).1
  by_cases h0 : s.size = 0
  · have hs : s.toList.isEmpty = true := by rw [empty_iff]; exact decide_eq_true h0
    have HT : Hid (wtext s.data.toList = [45]) := by
      show wtext s.data.toList = [45]
      unfold wtext
      rw [if_pos (List.eq_nil_of_length_eq_zero (by rw [← size_data]; exact h0))]
    go_enter Tryd.func9, Tryd.ntmps9
    go_wp2_with (at_builtin; refine wpList_append_lies _ rfl _ _ 34 rfl B 5 i0 _ 1 1 Tryd.underlying34 hinf hz0 hz1 hz2 rfl (by omega) v l.length (Lib.byteCells l) rfl (hown.alloc _) ⟨w.heap.size, 0, none⟩ 1 1 [.int .u8 45] rfl rfl (World.news_of_block (cs := #[.int .u8 45]) (t := 5) (fr := (0, 0)) (heap_alloc_new w _)) (by simp [Value.oneCell']) (by omega) (by unfold maxLen; omega) (by omega) (by simp; omega) (w.heap.size + 1) (by simp) ?_)
    intro gg cap w1 hown1 hgrow hat hltt
    have HO : Hid (Buf B w1 (.slice (some ⟨gg, 0, none⟩) (l.length + 1) cap) (l ++ wtext s.data.toList)) := by
      show Buf B w1 _ (l ++ wtext s.data.toList)
      rw [HT.out]
      exact Buf.more (m := [45]) hown1
    have HB : Hid (Below B w w1) := ((Below.refl _ _).alloc hB _).grown hgrow (by simp; omega) hvb
    have HK : Hid (K38 w w1) := (K38.alloc w _).trans (K38.grown (hown.alloc _) hgrow)
    clear hown1 hgrow hat hltt
    go_wp2
    go_ret
    exact ⟨_, rfl, HO.out, HB.out, HK.out⟩
  · have hs : s.toList.isEmpty = false := by rw [empty_iff]; exact decide_eq_false h0
    have HT : Hid (wtext s.data.toList = s.data.toList) := by
      show wtext s.data.toList = s.data.toList
      unfold wtext
      rw [if_neg (fun e => h0 (by rw [size_data, e]; rfl))]
    go_enter Tryd.func9, Tryd.ntmps9
    go_wp2_with (at_builtin; refine Lib.wpList_append_own_string _ rfl _ _ 34 9 rfl B 5 i0 Tryd.underlying34 Tryd.underlying9 hinf hz0 hz1 hz2 v l.length (Lib.byteCells l) rfl hown s rfl (by unfold maxLen; omega) (by omega) hB ?_)
    intro v' w1 hown1 hgrow hat
    have HO : Hid (Buf B w1 v' (l ++ wtext s.data.toList)) := by
      show Buf B w1 _ (l ++ wtext s.data.toList)
      rw [HT.out]
      rw [strCells_eq, size_data] at hown1
      exact Buf.more hown1
    have HB : Hid (Below B w w1) := (Below.refl _ _).grown hgrow hB hvb
    have HK : Hid (K38 w w1) := K38.grown hown hgrow
    clear hown1 hgrow hat
    go_wp2
    go_ret
    exact ⟨_, rfl, HO.out, HB.out, HK.out⟩
end Go.Proofs.YtmbapmbpnnaanabDoor
