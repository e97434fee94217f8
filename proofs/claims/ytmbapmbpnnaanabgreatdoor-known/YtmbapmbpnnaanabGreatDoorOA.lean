import Derived.Shelf.Strconv.Itoa0
import Derived.Shelf.Strconv.Itoa1
import Derived.Shelf.LaysM
import Derived.Shelf.Strconv.Itoa2
import Derived.Shelf.Strconv.Itoa3
import Derived.Test.YtmbapmbpnnaanabGreatDoorProg
import Derived.Test.YtmbapmbpnnaanabGreatDoorKH
import Derived.Test.YtmbapmbpnnaanabGreatDoorKS
import Derived.Lib.AppendStr
import Derived.Lib.AppendIntMem
import Derived.Lib.ItoaLen
namespace Go.Proofs.YtmbapmbpnnaanabGreatDoor
open Go.Shelf
def laysIren : Go.Shelf.Ren := ⟨fun | 171 => 41 | 243 => 68 | 246 => 106 | 283 => 135 | 284 => 136 | 285 => 137 | 286 => 138 | 129 => 151 | 317 => 150 | 318 => 152 | 319 => 153 | 320 => 154 | 337 => 160 | 338 => 161 | n => n, fun | 3 => 3 | 9 => 9 | 2 => 2 | 4 => 4 | 171 => 263 | 0 => 0 | 53 => 264 | 37 => 104 | 5 => 5 | 173 => 267 | 212 => 277 | 51 => 131 | 20 => 20 | 213 => 278 | 46 => 279 | 232 => 285 | 233 => 286 | n => n, fun | 17 => 0 | 18 => 1 | 19 => 2 | n => n⟩
set_option maxRecDepth 100000 in
theorem laysI : Go.Proofs.Lays.n171 Tryz.prog laysIren := {
  mixed := by kernel_rfl
  f129 := Tryz.func151.trans (congrArg some (by kernel_rfl))
  f171 := Tryz.func41.trans (congrArg some (by kernel_rfl))
  f243 := Tryz.func68.trans (congrArg some (by kernel_rfl))
  f246 := Tryz.func106.trans (congrArg some (by kernel_rfl))
  f283 := Tryz.func135.trans (congrArg some (by kernel_rfl))
  f284 := Tryz.func136.trans (congrArg some (by kernel_rfl))
  f285 := Tryz.func137.trans (congrArg some (by kernel_rfl))
  f286 := Tryz.func138.trans (congrArg some (by kernel_rfl))
  f317 := Tryz.func150.trans (congrArg some (by kernel_rfl))
  f318 := Tryz.func152.trans (congrArg some (by kernel_rfl))
  f319 := Tryz.func153.trans (congrArg some (by kernel_rfl))
  f320 := Tryz.func154.trans (congrArg some (by kernel_rfl))
  f337 := Tryz.func160.trans (congrArg some (by kernel_rfl))
  f338 := Tryz.func161.trans (congrArg some (by kernel_rfl))
  t0 := Tryz.underlying0
  a0 := Tryz.isAgg0
  z0 := Tryz.sizeOf0
  v0 := Tryz.zeroValue0
  t2 := Tryz.underlying2
  a2 := Tryz.isAgg2
  z2 := Tryz.sizeOf2
  v2 := Tryz.zeroValue2
  t3 := Tryz.underlying3
  a3 := Tryz.isAgg3
  z3 := Tryz.sizeOf3
  v3 := Tryz.zeroValue3
  t4 := Tryz.underlying4
  a4 := Tryz.isAgg4
  z4 := Tryz.sizeOf4
  v4 := Tryz.zeroValue4
  t5 := Tryz.underlying5
  a5 := Tryz.isAgg5
  z5 := Tryz.sizeOf5
  v5 := Tryz.zeroValue5
  t9 := Tryz.underlying9
  a9 := Tryz.isAgg9
  z9 := Tryz.sizeOf9
  v9 := Tryz.zeroValue9
  t20 := Tryz.underlying20
  a20 := Tryz.isAgg20
  z20 := Tryz.sizeOf20
  v20 := Tryz.zeroValue20
  t37 := Tryz.underlying104
  a37 := Tryz.isAgg104
  z37 := Tryz.sizeOf104
  v37 := Tryz.zeroValue104
  t46 := Tryz.underlying279
  a46 := Tryz.isAgg279
  z46 := Tryz.sizeOf279
  v46 := Tryz.zeroValue279
  t51 := Tryz.underlying131
  a51 := Tryz.isAgg131
  z51 := Tryz.sizeOf131
  v51 := Tryz.zeroValue131
  t53 := Tryz.underlying264
  a53 := Tryz.isAgg264
  z53 := Tryz.sizeOf264
  v53 := Tryz.zeroValue264
  t171 := Tryz.underlying263
  a171 := Tryz.isAgg263
  z171 := Tryz.sizeOf263
  v171 := Tryz.zeroValue263
  t173 := Tryz.underlying267
  a173 := Tryz.isAgg267
  z173 := Tryz.sizeOf267
  v173 := Tryz.zeroValue267
  t212 := Tryz.underlying277
  a212 := Tryz.isAgg277
  z212 := Tryz.sizeOf277
  v212 := Tryz.zeroValue277
  t213 := Tryz.underlying278
  a213 := Tryz.isAgg278
  z213 := Tryz.sizeOf278
  t232 := Tryz.underlying285
  a232 := Tryz.isAgg285
  z232 := Tryz.sizeOf285
  v232 := Tryz.zeroValue285
  t233 := Tryz.underlying286
  a233 := Tryz.isAgg286
  z233 := Tryz.sizeOf286
  v233 := Tryz.zeroValue286
  g17 := by kernel_rfl
  g18 := by kernel_rfl
  g19 := by kernel_rfl }
open Go.RowKit Go.Sort Go.Lib in
theorem itoa_small (i : Nat) (hi : i < 100) (w : World) :
    Calls Tryz.prog 41 #[.int .i64 i] w fun e w' => e = .returned (.string ⟨(Lib.decDigits i).toArray⟩) ∧ w' = w := Any.strconv_Itoa_small laysI i hi w
end Go.Proofs.YtmbapmbpnnaanabGreatDoor
namespace Go.Proofs.YtmbapmbpnnaanabGreatDoor.Tx
open Go.RowKit

/-- The states of a machine in a slice. -/
def StaE : Enc M2.ESt := ⟨108, 9, fun s => [.string ⟨s.en.toArray⟩, .string ⟨(s.sd.getD 0 []).toArray⟩, .string ⟨(s.sd.getD 1 []).toArray⟩, .string ⟨(s.sd.getD 2 []).toArray⟩, .string ⟨(s.sd.getD 3 []).toArray⟩, .int .i64 ((s.nx.getD 0 0 : Nat) : Int), .int .i64 ((s.nx.getD 1 0 : Nat) : Int), .int .i64 ((s.nx.getD 2 0 : Nat) : Int), .int .i64 ((s.nx.getD 3 0 : Nat) : Int)], fun _ => rfl⟩
def nexts (q : M2.ESt) : List Nat := [q.nx.getD 0 0, q.nx.getD 1 0, q.nx.getD 2 0, q.nx.getD 3 0]
def saids (q : M2.ESt) : List (List UInt8) := [q.sd.getD 0 [], q.sd.getD 1 [], q.sd.getD 2 [], q.sd.getD 3 []]
def Within (sts : List M2.ESt) : Prop := ∀ q ∈ sts, ∀ t ∈ nexts q, t < 100
theorem sta_nine {w : World} {g n cap : Nat} {sts : List M2.ESt} (h : Row StaE w (.slice (some ⟨g, 0, none⟩) n cap) sts) (i : Nat) (q : M2.ESt) (hq : sts[i]? = some q) :
    ∃ (S0 S1 S2 S3 S4 : ByteArray) (N0 N1 N2 N3 : Nat), (S0 = ⟨q.en.toArray⟩ ∧ [S1, S2, S3, S4] = (saids q).map (fun l => (⟨l.toArray⟩ : ByteArray)) ∧ [N0, N1, N2, N3] = nexts q) ∧
      (w.cell? ⟨g, i * 9, none⟩ = some (.string S0) ∧ w.cell? ⟨g, i * 9 + 1, none⟩ = some (.string S1) ∧ w.cell? ⟨g, i * 9 + 2, none⟩ = some (.string S2) ∧ w.cell? ⟨g, i * 9 + 3, none⟩ = some (.string S3) ∧
      w.cell? ⟨g, i * 9 + 4, none⟩ = some (.string S4) ∧ w.cell? ⟨g, i * 9 + 5, none⟩ = some (.int .i64 (N0 : Int)) ∧ w.cell? ⟨g, i * 9 + 6, none⟩ = some (.int .i64 (N1 : Int)) ∧
      w.cell? ⟨g, i * 9 + 7, none⟩ = some (.int .i64 (N2 : Int)) ∧ w.cell? ⟨g, i * 9 + 8, none⟩ = some (.int .i64 (N3 : Int))) :=
  ⟨_, _, _, _, _, _, _, _, _, ⟨rfl, rfl, rfl⟩, h.cell i 0 hq rfl, h.cell i 1 hq rfl, h.cell i 2 hq rfl, h.cell i 3 hq rfl, h.cell i 4 hq rfl, h.cell i 5 hq rfl, h.cell i 6 hq rfl, h.cell i 7 hq rfl, h.cell i 8 hq rfl⟩
theorem blk_cell {w : World} {H : Nat} {a : Array Value} {t : Nat} {fr : Nat × Nat} (h : w.heap[H]? = some (.cells a t fr)) (j : Nat) (v : Value) (hv : a[j]? = some v) : w.cell? ⟨H, j, none⟩ = some v := by
  simp [World.cell?, h, hv]
theorem ix35_0 (S0 S1 S2 S3 : ByteArray) (w : World) : (Instr.index 105 (.agg #[.string S0, .string S1, .string S2, .string S3]) (.int .i64 0)).run Tryz.prog w = .ok (.string S0) w := by kernel_rfl
theorem ix35_1 (S0 S1 S2 S3 : ByteArray) (w : World) : (Instr.index 105 (.agg #[.string S0, .string S1, .string S2, .string S3]) (.int .i64 1)).run Tryz.prog w = .ok (.string S1) w := by kernel_rfl
theorem ix35_2 (S0 S1 S2 S3 : ByteArray) (w : World) : (Instr.index 105 (.agg #[.string S0, .string S1, .string S2, .string S3]) (.int .i64 2)).run Tryz.prog w = .ok (.string S2) w := by kernel_rfl
theorem ix35_3 (S0 S1 S2 S3 : ByteArray) (w : World) : (Instr.index 105 (.agg #[.string S0, .string S1, .string S2, .string S3]) (.int .i64 3)).run Tryz.prog w = .ok (.string S3) w := by kernel_rfl

def wtext (l : List UInt8) : List UInt8 := if l = [] then [45] else l

/-- The bytes l lie in a row of the call's own. -/
abbrev Buf (B : Nat) (w : World) (v : Value) (l : List UInt8) : Prop := w.ownsRow B 5 1 v l.length (Lib.byteCells l)

theorem Buf.more {B : Nat} {w : World} {v : Value} {l m : List UInt8} (h : w.ownsRow B 5 1 v (l.length + m.length) (Lib.byteCells l ++ Lib.byteCells m)) : Buf B w v (l ++ m) := by
  show w.ownsRow B 5 1 v (l ++ m).length (Lib.byteCells (l ++ m))
  rw [List.length_append, Lib.byteCells_append]
  exact h
theorem strCells_eq (s : ByteArray) : Lib.strCells s = Lib.byteCells s.data.toList := by
  simp [Lib.strCells, Lib.byteCells]
theorem size_data (s : ByteArray) : s.size = s.data.toList.length := by
  show s.data.size = _
  simp

/-- Blocks of states stand as they stood. -/
def K38 (w w' : World) : Prop := ∀ (H : Nat) (a : Array Value) (fr : Nat × Nat), w.heap[H]? = some (.cells a 108 fr) → w'.heap[H]? = some (.cells a 108 fr)
theorem K38.refl (w : World) : K38 w w := fun _ _ _ h => h
theorem K38.trans {a b c : World} (h : K38 a b) (k : K38 b c) : K38 a c := fun H x fr hx => k H x fr (h H x fr hx)
theorem K38.alloc (w : World) (o : Obj) : K38 w (w.alloc o) := fun H a fr h => by
  rw [Below.heap_alloc _ _ _ (Array.getElem?_eq_some_iff.1 h).1]; exact h
theorem K38.grown {w w' : World} {B n : Nat} {v : Value} {xs : List Value} (ho : w.ownsRow B 5 1 v n xs) (hg : w.grownBy w' v.ownBlock) : K38 w w' := fun H a fr h => by
  rw [hg.block H (Array.getElem?_eq_some_iff.1 h).1 ?_]
  · exact h
  · intro e
    rcases ho.2 with ⟨rfl, _⟩ | ⟨g, cap, cur, rfl, _, hgg, _⟩
    · cases e
    · cases e
      rw [h] at hgg
      cases hgg
theorem K38.none {w w' : World} (hg : w.grownBy w' none) : K38 w w' := fun H a fr h => (hg.block H (Array.getElem?_eq_some_iff.1 h).1 (by simp)).trans h

set_option maxHeartbeats 400000 in
theorem appendWord_any (B : Nat) (v : Value) (l : List UInt8) (s : ByteArray) (w : World) (hown : Buf B w v l) (hB : B ≤ w.heap.size) (hlim : l.length + s.size + 1 ≤ 100000000) :
    Calls Tryz.prog 40 #[v, .string s] w fun e w' => ∃ v', e = .returned v' ∧ Buf B w' v' (l ++ wtext s.data.toList) ∧ Below B w w' ∧ K38 w w' := by
  obtain ⟨i0, hinf, hz0, hz1, hz2⟩ := info_parts Tryz.info5
  have hvb := fun k h => (hown.lt k h).1
  by_cases h0 : s.size = 0
  · have hs : s.toList.isEmpty = true := by rw [empty_iff]; exact decide_eq_true h0
    have HT : Hid (wtext s.data.toList = [45]) := by
      show wtext s.data.toList = [45]
      unfold wtext
      rw [if_pos (List.eq_nil_of_length_eq_zero (by rw [← size_data]; exact h0))]
    go_enter Tryz.func40, Tryz.ntmps40
    go_wp2_with (at_builtin; refine wpList_append_lies _ rfl _ _ 104 rfl B 5 i0 _ 1 1 Tryz.underlying104 hinf hz0 hz1 hz2 rfl (by omega) v l.length (Lib.byteCells l) rfl (hown.alloc _) ⟨w.heap.size, 0, none⟩ 1 1 [.int .u8 45] rfl rfl (World.news_of_block (cs := #[.int .u8 45]) (t := 5) (fr := (0, 0)) (heap_alloc_new w _)) (by simp [Value.oneCell']) (by omega) (by unfold maxLen; omega) (by omega) (by simp; omega) (w.heap.size + 1) (by simp) ?_)
    intro gg cap w1 hown1 hgrow hat hltt
    have HO : Hid (Buf B w1 (.slice (some ⟨gg, 0, none⟩) (l.length + 1) cap) (l ++ wtext s.data.toList)) := by
      show Buf B w1 _ (l ++ wtext s.data.toList)
      rw [HT.out]
      exact Buf.more (m := [45]) hown1
    have HB : Hid (Below B w w1) := ((Below.refl _ _).alloc hB _).grown hgrow (by simp; omega) hvb
    have HK : Hid (K38 w w1) := (K38.alloc w _).trans (K38.grown (hown.alloc _) hgrow)
    clear hown1 hgrow hat hltt
    go_wp2
    go_ret
    exact ⟨_, rfl, HO.out, HB.out, HK.out⟩
  · have hs : s.toList.isEmpty = false := by rw [empty_iff]; exact decide_eq_false h0
    have HT : Hid (wtext s.data.toList = s.data.toList) := by
      show wtext s.data.toList = s.data.toList
      unfold wtext
      rw [if_neg (fun e => h0 (by rw [size_data, e]; rfl))]
    go_enter Tryz.func40, Tryz.ntmps40
    go_wp2_with (at_builtin; refine Lib.wpList_append_own_string _ rfl _ _ 104 9 rfl B 5 i0 Tryz.underlying104 Tryz.underlying9 hinf hz0 hz1 hz2 v l.length (Lib.byteCells l) rfl hown s rfl (by unfold maxLen; omega) (by omega) hB ?_)
    intro v' w1 hown1 hgrow hat
    have HO : Hid (Buf B w1 v' (l ++ wtext s.data.toList)) := by
      show Buf B w1 _ (l ++ wtext s.data.toList)
      rw [HT.out]
      rw [strCells_eq, size_data] at hown1
      exact Buf.more hown1
    have HB : Hid (Below B w w1) := (Below.refl _ _).grown hgrow hB hvb
    have HK : Hid (K38 w w1) := K38.grown hown hgrow
    clear hown1 hgrow hat
    go_wp2
    go_ret
    exact ⟨_, rfl, HO.out, HB.out, HK.out⟩
end Go.Proofs.YtmbapmbpnnaanabGreatDoor.Tx
namespace Go.Proofs.YtmbapmbpnnaanabGreatDoor.Tx
open Go.RowKit

def ptext (sd : List UInt8) (n : Nat) : List UInt8 := [32] ++ wtext sd ++ [58] ++ Lib.decDigits n
def accT (f s0 s1 s2 s3 : List UInt8) (n0 n1 n2 n3 : Nat) : Nat → List UInt8
  | 0 => wtext f
  | 1 => wtext f ++ ptext s0 n0
  | 2 => wtext f ++ ptext s0 n0 ++ ptext s1 n1
  | 3 => wtext f ++ ptext s0 n0 ++ ptext s1 n1 ++ ptext s2 n2
  | _ => wtext f ++ ptext s0 n0 ++ ptext s1 n1 ++ ptext s2 n2 ++ ptext s3 n3
def lineText (q : M2.ESt) : List UInt8 := accT q.en (q.sd.getD 0 []) (q.sd.getD 1 []) (q.sd.getD 2 []) (q.sd.getD 3 []) (q.nx.getD 0 0) (q.nx.getD 1 0) (q.nx.getD 2 0) (q.nx.getD 3 0) 4 ++ [10]
def textM (sts : List M2.ESt) : List UInt8 := sts.flatMap lineText
theorem wtext_len (l : List UInt8) : l.length ≤ (wtext l).length ∧ 1 ≤ (wtext l).length := by
  unfold wtext
  split
  · rename_i h; rw [h]; simp
  · rename_i h
    have : 0 < l.length := List.length_pos_iff.2 h
    omega
theorem textM_at (sts : List M2.ESt) (i : Nat) (q : M2.ESt) (h : sts[i]? = some q) : textM (sts.take (i + 1)) = textM (sts.take i) ++ lineText q ∧ (textM (sts.take i)).length + (lineText q).length ≤ (textM sts).length := by
  have e : textM (sts.take (i + 1)) = textM (sts.take i) ++ lineText q := by
    rw [List.take_add_one, h]
    simp [textM]
  refine ⟨e, ?_⟩
  have : textM sts = textM (sts.take (i + 1)) ++ textM (sts.drop (i + 1)) := by
    unfold textM
    rw [← List.flatMap_append, List.take_append_drop]
  rw [this, e]
  simp

/-- A byte more. -/
theorem buf_byte {B : Nat} {w0 w1 : World} {v : Value} {l : List UInt8} {c : UInt8} {gg cap : Nat} (h : w1.ownsRow B 5 1 (.slice (some ⟨gg, 0, none⟩) (l.length + 1) cap) (l.length + 1) (Lib.byteCells l ++ [.int .u8 (c.toNat : Int)])) (ho : Buf B w0 v l) (o : Obj) (hg : (w0.alloc o).grownBy w1 v.ownBlock) (hB : B ≤ w0.heap.size) :
    Buf B w1 (.slice (some ⟨gg, 0, none⟩) (l.length + 1) cap) (l ++ [c]) ∧ Below B w0 w1 ∧ K38 w0 w1 :=
  ⟨Buf.more (m := [c]) h, ((Below.refl _ _).alloc hB _).grown hg (by simp; omega) (fun k hk => (ho.lt k hk).1), (K38.alloc w0 o).trans (K38.grown (ho.alloc o) hg)⟩


set_option maxHeartbeats 4000000 in
set_option maxRecDepth 100000 in
theorem text_any (m : Nat) (v : Value) (sts : List M2.ESt) (w : World) (hm : w.cell? ⟨m, 0, none⟩ = some v) (hst : Row StaE w v sts) (h0 : 0 < sts.length) (hl : sts.length ≤ 200) (hin : Within sts) (hlim : (textM sts).length ≤ 1048576) :
    Calls Tryz.prog 15 #[.pointer (some ⟨m, 0, none⟩)] w fun e w' => e = .returned (.string ⟨(textM sts).toArray⟩) ∧ Below w.heap.size w w' := by
  obtain ⟨i0, hinf, hz0, hz1, hz2⟩ := info_parts Tryz.info5
  obtain ⟨g, cap, rfl, hg, hcap⟩ := hst.form h0
  obtain ⟨n, hn⟩ : ∃ n, n = sts.length := ⟨_, rfl⟩
  rw [← hn] at h0 hl hcap hst hm
  have HN : Hid (n = sts.length) := hn
  have HIN : Hid (Within sts) := hin
  have HLIM : Hid ((textM sts).length ≤ 1048576) := hlim
  have HST : Hid (Row StaE w (.slice (some ⟨g, 0, none⟩) n cap) sts) := hst
  clear hn hin hst hlim
  go_enter Tryz.func15, Tryz.ntmps15
  go_wp2_with fail
  go_loopw [3, 16] (fun vv ii wr => ∃ (i : Nat), i ≤ n ∧ ii = .int .i64 (i : Int) ∧ Buf w.heap.size wr vv (textM (sts.take i)) ∧ Below w.heap.size w wr) (fun _ ii _ => n - (intOf ii).toNat)
  case atStart => exact ⟨0, by omega, rfl, World.ownsRow_nil _ _ _ _, Below.refl _ _⟩
  case round =>
    obtain ⟨i, hi, rfl, hbuf, hb⟩ := hrel
    have hszr := hb.size
    by_cases hlt : i < n
    · obtain ⟨q, hq⟩ : ∃ q, sts[i]? = some q := ⟨sts[i]'(by have := HN.out; omega), List.getElem?_eq_getElem _⟩
      obtain ⟨S0, S1, S2, S3, S4, N0, N1, N2, N3, hS, a0, a1, a2, a3, a4, a5, a6, a7, a8⟩ := sta_nine (HST.out.no (Mod.of_below hb)) i q hq
      obtain ⟨hta, htl⟩ := textM_at sts i q hq
      obtain ⟨A, hA⟩ : ∃ A, A = accT S0.data.toList S1.data.toList S2.data.toList S3.data.toList S4.data.toList N0 N1 N2 N3 := ⟨_, rfl⟩
      have hlA : lineText q = A 4 ++ [10] := by
        obtain ⟨e1, e2, e3⟩ := hS
        simp only [saids, nexts, List.map_cons, List.map_nil, List.cons.injEq, and_true] at e2 e3
        obtain ⟨f1, f2, f3, f4⟩ := e2
        obtain ⟨g1, g2, g3, g4⟩ := e3
        rw [hA, e1, f1, f2, f3, f4, g1, g2, g3, g4]
        rfl
      have A0 : A 0 = wtext S0.data.toList := by rw [hA]; rfl
      have A1 : A 1 = A 0 ++ ptext S1.data.toList N0 := by rw [hA]; rfl
      have A2 : A 2 = A 1 ++ ptext S2.data.toList N1 := by rw [hA]; rfl
      have A3 : A 3 = A 2 ++ ptext S3.data.toList N2 := by rw [hA]; rfl
      have A4 : A 4 = A 3 ++ ptext S4.data.toList N3 := by rw [hA]; rfl
      have hw4 : N0 < 100 ∧ N1 < 100 ∧ N2 < 100 ∧ N3 < 100 := by
        have hmm := HIN.out q (List.mem_of_getElem? hq)
        rw [← hS.2.2] at hmm
        refine ⟨?_, ?_, ?_, ?_⟩
        · have := hmm N0 (by simp); omega
        · have := hmm N1 (by simp); omega
        · have := hmm N2 (by simp); omega
        · have := hmm N3 (by simp); omega
      obtain ⟨L, hL⟩ : ∃ L, L = textM (sts.take i) := ⟨_, rfl⟩
      rw [← hL] at hbuf hta htl
      have hlen : L.length + (A 4).length + 1 ≤ 1048576 := by
        rw [hlA, List.length_append] at htl
        have := HLIM.out
        simp at htl
        omega
      have l4 : (A 4).length = (A 3).length + (ptext S4.data.toList N3).length := by rw [A4, List.length_append]
      have l3 : (A 3).length = (A 2).length + (ptext S3.data.toList N2).length := by rw [A3, List.length_append]
      have l2 : (A 2).length = (A 1).length + (ptext S2.data.toList N1).length := by rw [A2, List.length_append]
      have l1 : (A 1).length = (A 0).length + (ptext S1.data.toList N0).length := by rw [A1, List.length_append]
      have l0 : (A 0).length = (wtext S0.data.toList).length := by rw [A0]
      have hpl : ∀ (sd : List UInt8) (k : Nat), (ptext sd k).length = (wtext sd).length + 2 + (Lib.decDigits k).length := fun sd k => by simp [ptext]; omega
      have hbnd : L.length + S0.size ≤ 1048576 ∧ L.length + (A 0).length + (wtext S1.data.toList).length + 2 + (Lib.decDigits N0).length ≤ 1048576 ∧ L.length + (A 1).length + (wtext S2.data.toList).length + 2 + (Lib.decDigits N1).length ≤ 1048576 ∧
          L.length + (A 2).length + (wtext S3.data.toList).length + 2 + (Lib.decDigits N2).length ≤ 1048576 ∧ L.length + (A 3).length + (wtext S4.data.toList).length + 2 + (Lib.decDigits N3).length ≤ 1048576 := by
        have p1 := hpl S1.data.toList N0
        have p2 := hpl S2.data.toList N1
        have p3 := hpl S3.data.toList N2
        have p4 := hpl S4.data.toList N3
        have w0 := (wtext_len S0.data.toList).1
        rw [← size_data] at w0
        omega
      have HA : Hid (A 0 = wtext S0.data.toList ∧ A 1 = A 0 ++ ptext S1.data.toList N0 ∧ A 2 = A 1 ++ ptext S2.data.toList N1 ∧ A 3 = A 2 ++ ptext S3.data.toList N2 ∧ A 4 = A 3 ++ ptext S4.data.toList N3) := ⟨A0, A1, A2, A3, A4⟩
      have HBN : Hid _ := hbnd
      have HEND : Hid (textM (sts.take (i + 1)) = L ++ A 4 ++ [10]) := by
        show textM (sts.take (i + 1)) = L ++ A 4 ++ [10]
        rw [hta, hlA, List.append_assoc]
      have HLEN : Hid (L.length + (A 4).length + 1 ≤ 1048576) := hlen
      have HW4 : Hid _ := hw4
      have HLL : Hid (L = textM (sts.take i)) := hL
      have b0 : L.length + S0.size + 1 ≤ 100000000 := by have := hbnd.1; omega
      have HBUF : Hid (Buf w.heap.size wr u3 L) := hbuf
      have HQQ : Hid (sts[i]? = some q) := hq
      clear hA hlA A0 A1 A2 A3 A4 l0 l1 l2 l3 l4 hpl hbnd hta htl hlen hw4 hS hq hL
      have haw := fun o => appendWord_any w.heap.size u3 L S0 (wr.alloc o) (hbuf.alloc o) (by simp; omega) b0
      clear hbuf
      go_wp2_with fail
      refine (haw _).mono ?_
      rintro e w1 ⟨v1, rfl, hbuf1, hb1, hk1⟩
      clear haw
      obtain ⟨H, hH⟩ : ∃ H, H = wr.heap.size := ⟨_, rfl⟩
      have hqb : w1.heap[H]? = some (.cells #[.string S0, .string S1, .string S2, .string S3, .string S4, .int .i64 (N0 : Int), .int .i64 (N1 : Int), .int .i64 (N2 : Int), .int .i64 (N3 : Int)] 108 (0, 0)) := by
        rw [hH]
        exact hk1 _ _ _ (heap_alloc_new wr _)
      have hB1 : Below w.heap.size w w1 := (hb.alloc (by omega) _).trans hb1
      rw [← hH]
      have q1 : w1.cell? ⟨H, 1, none⟩ = some (.string S1) := blk_cell hqb 1 _ rfl
      have q2 : w1.cell? ⟨H, 2, none⟩ = some (.string S2) := blk_cell hqb 2 _ rfl
      have q3 : w1.cell? ⟨H, 3, none⟩ = some (.string S3) := blk_cell hqb 3 _ rfl
      have q4 : w1.cell? ⟨H, 4, none⟩ = some (.string S4) := blk_cell hqb 4 _ rfl
      have HQB : Hid (w1.heap[H]? = some (.cells #[.string S0, .string S1, .string S2, .string S3, .string S4, .int .i64 (N0 : Int), .int .i64 (N1 : Int), .int .i64 (N2 : Int), .int .i64 (N3 : Int)] 108 (0, 0))) := hqb
      have HB1 : Hid (Buf w.heap.size w1 v1 (L ++ A 0)) := by
        show Buf w.heap.size w1 v1 (L ++ A 0)
        rw [HA.out.1]; exact hbuf1
      have HBL1 : Hid (Below w.heap.size w w1) := hB1
      clear hqb hB1 hbuf1 hb1 hk1 hH hm a0 a1 a2 a3 a4 a5 a6 a7 a8
      go_wp2
      clear q1 q2 q3 q4
      have ix0 := ix35_0 S1 S2 S3 S4
      have ix1 := ix35_1 S1 S2 S3 S4
      have ix2 := ix35_2 S1 S2 S3 S4
      have ix3 := ix35_3 S1 S2 S3 S4
      go_loopw [3, 26] (fun vv jj wx => ∃ (j : Nat), j ≤ 4 ∧ jj = .int .i64 (j : Int) ∧ Buf w.heap.size wx vv (L ++ A j) ∧ wx.heap[H]? = some (.cells #[.string S0, .string S1, .string S2, .string S3, .string S4, .int .i64 (N0 : Int), .int .i64 (N1 : Int), .int .i64 (N2 : Int), .int .i64 (N3 : Int)] 108 (0, 0)) ∧ Below w.heap.size w wx) (fun _ jj _ => 4 - (intOf jj).toNat)
      case atStart => exact ⟨0, by omega, rfl, HB1.out, HQB.out, HBL1.out⟩
      case round =>
        obtain ⟨j, hj, rfl, hbuf, hqb, hbl⟩ := hrel
        clear HB1 HQB HBL1 HBUF
        have hsx := hbl.size
        match j, hj with
        | 0, _ =>
          have hbn := HBN.out.2.1
          have hwl := wtext_len S1.data.toList
          rw [← size_data] at hwl
          obtain ⟨l0, hl0⟩ : ∃ l, l = L ++ A 0 := ⟨_, rfl⟩
          rw [← hl0] at hbuf
          have hll : l0.length = L.length + (A 0).length := by rw [hl0, List.length_append]
          rw [← hll] at hbn
          have HL0 : Hid (l0 = L ++ A 0) := hl0
          clear hl0 hll
          go_wp2_with (at_builtin; refine wpList_append_lies _ rfl _ _ 104 rfl w.heap.size 5 i0 _ 1 1 Tryz.underlying104 hinf hz0 hz1 hz2 rfl (by omega) u3 l0.length (Lib.byteCells l0) rfl (hbuf.alloc _) ⟨wr.heap.size, 0, none⟩ 1 1 [.int .u8 32] rfl rfl (World.news_of_block (cs := #[.int .u8 32]) (t := 5) (fr := (0, 0)) (heap_alloc_new wr _)) (by simp [Value.oneCell']) (by omega) (by unfold maxLen; omega) (by omega) (by simp; omega) (wr.heap.size + 1) (by simp) ?_)
          intro g1 cap1 x1 ho1 hg1 _ _
          obtain ⟨hbuf1, hb1, hk1⟩ := buf_byte (c := 32) ho1 hbuf _ hg1 hsx
          have hs1 := hb1.size
          clear ho1 hg1 hbuf
          have hl1 : (l0 ++ [32]).length = l0.length + 1 := by simp
          have haw := appendWord_any w.heap.size _ (l0 ++ [32]) S1 x1 hbuf1 (by omega) (by rw [hl1]; omega)
          have HQ1 : Hid _ := hk1 _ _ _ hqb
          have HBL1 : Hid _ := hbl.trans hb1
          clear hbuf1 hb1 hk1 hl1 hqb hbl
          go_wp2_with fail
          refine haw.mono ?_
          rintro e x2 ⟨v2, rfl, hbuf2, hb2, hk2⟩
          have hs2 := hb2.size
          obtain ⟨l2, hl2⟩ : ∃ l, l = l0 ++ [32] ++ wtext S1.data.toList := ⟨_, rfl⟩
          rw [← hl2] at hbuf2
          have hll2 : l0.length + 1 + (wtext S1.data.toList).length = l2.length := by rw [hl2]; simp; omega
          have HL2 : Hid (l2 = l0 ++ [32] ++ wtext S1.data.toList) := hl2
          have HQ2 : Hid _ := hk2 _ _ _ HQ1.out
          have HBL2 : Hid _ := HBL1.out.trans hb2
          clear haw hl2 hb2 hk2 HQ1 HBL1
          go_wp2_with (at_builtin; refine wpList_append_lies _ rfl _ _ 104 rfl w.heap.size 5 i0 _ 1 1 Tryz.underlying104 hinf hz0 hz1 hz2 rfl (by omega) v2 l2.length (Lib.byteCells l2) rfl (hbuf2.alloc _) ⟨x2.heap.size, 0, none⟩ 1 1 [.int .u8 58] rfl rfl (World.news_of_block (cs := #[.int .u8 58]) (t := 5) (fr := (0, 0)) (heap_alloc_new x2 _)) (by simp [Value.oneCell']) (by omega) (by unfold maxLen; omega) (by omega) (by simp; omega) (x2.heap.size + 1) (by simp) ?_)
          intro g3 cap3 x3 ho3 hg3 _ _
          obtain ⟨hbuf3, hb3, hk3⟩ := buf_byte (c := 58) ho3 hbuf2 _ hg3 (by omega)
          have hs3 := hb3.size
          have hqb3 := hk3 _ _ _ HQ2.out
          have hbl3 := HBL2.out.trans hb3
          have cn : x3.cell? ⟨H, 5, none⟩ = some (.int .i64 (N0 : Int)) := blk_cell hqb3 5 _ rfl
          have hnn := HW4.out.1
          have hit := itoa_small N0 (by omega) x3
          have HQ3 : Hid _ := hqb3
          have HBL3 : Hid _ := hbl3
          clear ho3 hg3 hbuf2 hb3 hk3 hqb3 hbl3 HQ2 HBL2
          go_wp2_with fail
          refine hit.mono ?_
          rintro e x4 ⟨rfl, hx4⟩
          have hgr : x3.grownBy x4 none := by rw [hx4]; exact ⟨rfl, rfl, rfl, Nat.le_refl _, fun _ _ _ => rfl⟩
          have hbuf4 : Buf w.heap.size x4 (.slice (some ⟨g3, 0, none⟩) (l2.length + 1) cap3) (l2 ++ [58]) := hbuf3.kept hgr (Or.inr (by simp [Value.ownBlock]))
          have hb4 : Below w.heap.size x3 x4 := (Below.refl _ _).grown hgr (by omega) (fun k hk => by cases hk)
          have hs4 := hb4.size
          have HQ4 : Hid _ := K38.none hgr _ _ _ HQ3.out
          have HBL4 : Hid _ := HBL3.out.trans hb4
          have hl4 : (l2 ++ [58]).length = l2.length + 1 := by simp
          have hsz4 : (⟨(Lib.decDigits N0).toArray⟩ : ByteArray).size = (Lib.decDigits N0).length := rfl
          have hvb := fun k h => (hbuf4.lt k h).1
          clear hit hx4 hgr hbuf3 hb4 HQ3 HBL3 cn
          have hm1 : (l2 ++ [58]).length + (⟨(Lib.decDigits N0).toArray⟩ : ByteArray).size ≤ maxLen := by rw [hl4, hsz4]; unfold maxLen; omega
          have hm2 : (l2 ++ [58]).length + (⟨(Lib.decDigits N0).toArray⟩ : ByteArray).size ≤ 140737488355328 := by rw [hl4, hsz4]; omega
          have HS4 : Hid _ := hsz4
          have hB4 : w.heap.size ≤ x4.heap.size := by omega
          clear hsz4 hl4
          go_wp2_with (at_builtin; refine Lib.wpList_append_own_string _ rfl _ _ 104 9 rfl w.heap.size 5 i0 Tryz.underlying104 Tryz.underlying9 hinf hz0 hz1 hz2 (.slice (some ⟨g3, 0, none⟩) (l2.length + 1) cap3) (l2 ++ [58]).length (Lib.byteCells (l2 ++ [58])) rfl hbuf4 ⟨(Lib.decDigits N0).toArray⟩ rfl hm1 hm2 hB4 ?_)
          intro v5 x5 ho5 hg5 _
          have HB5 : Hid (Buf w.heap.size x5 v5 (L ++ A 1)) := by
            show Buf w.heap.size x5 v5 (L ++ A 1)
            rw [Lib.strCells_toArray] at ho5
            have := Buf.more (l := l2 ++ [58]) (m := Lib.decDigits N0) (by rw [List.length_append]; exact ho5)
            rw [HL2.out, HL0.out] at this
            rw [HA.out.2.1]
            simpa [ptext, List.append_assoc] using this
          have HQ5 : Hid _ := K38.grown hbuf4 hg5 _ _ _ HQ4.out
          have HBL5 : Hid _ := HBL4.out.grown hg5 (by omega) hvb
          clear ho5 hg5 hbuf4 HQ4 HBL4 hvb hm1 hm2
          go_wp2
          go_roundw
          case rel => exact ⟨1, by omega, rfl, HB5.out, HQ5.out, HBL5.out⟩
          case measure => simp [intOf]
        | 1, _ =>
          have hbn := HBN.out.2.2.1
          have hwl := wtext_len S2.data.toList
          rw [← size_data] at hwl
          obtain ⟨l0, hl0⟩ : ∃ l, l = L ++ A 1 := ⟨_, rfl⟩
          rw [← hl0] at hbuf
          have hll : l0.length = L.length + (A 1).length := by rw [hl0, List.length_append]
          rw [← hll] at hbn
          have HL0 : Hid (l0 = L ++ A 1) := hl0
          clear hl0 hll
          go_wp2_with (at_builtin; refine wpList_append_lies _ rfl _ _ 104 rfl w.heap.size 5 i0 _ 1 1 Tryz.underlying104 hinf hz0 hz1 hz2 rfl (by omega) u3 l0.length (Lib.byteCells l0) rfl (hbuf.alloc _) ⟨wr.heap.size, 0, none⟩ 1 1 [.int .u8 32] rfl rfl (World.news_of_block (cs := #[.int .u8 32]) (t := 5) (fr := (0, 0)) (heap_alloc_new wr _)) (by simp [Value.oneCell']) (by omega) (by unfold maxLen; omega) (by omega) (by simp; omega) (wr.heap.size + 1) (by simp) ?_)
          intro g1 cap1 x1 ho1 hg1 _ _
          obtain ⟨hbuf1, hb1, hk1⟩ := buf_byte (c := 32) ho1 hbuf _ hg1 hsx
          have hs1 := hb1.size
          clear ho1 hg1 hbuf
          have hl1 : (l0 ++ [32]).length = l0.length + 1 := by simp
          have haw := appendWord_any w.heap.size _ (l0 ++ [32]) S2 x1 hbuf1 (by omega) (by rw [hl1]; omega)
          have HQ1 : Hid _ := hk1 _ _ _ hqb
          have HBL1 : Hid _ := hbl.trans hb1
          clear hbuf1 hb1 hk1 hl1 hqb hbl
          go_wp2_with fail
          refine haw.mono ?_
          rintro e x2 ⟨v2, rfl, hbuf2, hb2, hk2⟩
          have hs2 := hb2.size
          obtain ⟨l2, hl2⟩ : ∃ l, l = l0 ++ [32] ++ wtext S2.data.toList := ⟨_, rfl⟩
          rw [← hl2] at hbuf2
          have hll2 : l0.length + 1 + (wtext S2.data.toList).length = l2.length := by rw [hl2]; simp; omega
          have HL2 : Hid (l2 = l0 ++ [32] ++ wtext S2.data.toList) := hl2
          have HQ2 : Hid _ := hk2 _ _ _ HQ1.out
          have HBL2 : Hid _ := HBL1.out.trans hb2
          clear haw hl2 hb2 hk2 HQ1 HBL1
          go_wp2_with (at_builtin; refine wpList_append_lies _ rfl _ _ 104 rfl w.heap.size 5 i0 _ 1 1 Tryz.underlying104 hinf hz0 hz1 hz2 rfl (by omega) v2 l2.length (Lib.byteCells l2) rfl (hbuf2.alloc _) ⟨x2.heap.size, 0, none⟩ 1 1 [.int .u8 58] rfl rfl (World.news_of_block (cs := #[.int .u8 58]) (t := 5) (fr := (0, 0)) (heap_alloc_new x2 _)) (by simp [Value.oneCell']) (by omega) (by unfold maxLen; omega) (by omega) (by simp; omega) (x2.heap.size + 1) (by simp) ?_)
          intro g3 cap3 x3 ho3 hg3 _ _
          obtain ⟨hbuf3, hb3, hk3⟩ := buf_byte (c := 58) ho3 hbuf2 _ hg3 (by omega)
          have hs3 := hb3.size
          have hqb3 := hk3 _ _ _ HQ2.out
          have hbl3 := HBL2.out.trans hb3
          have cn : x3.cell? ⟨H, 6, none⟩ = some (.int .i64 (N1 : Int)) := blk_cell hqb3 6 _ rfl
          have hnn := HW4.out.2.1
          have hit := itoa_small N1 (by omega) x3
          have HQ3 : Hid _ := hqb3
          have HBL3 : Hid _ := hbl3
          clear ho3 hg3 hbuf2 hb3 hk3 hqb3 hbl3 HQ2 HBL2
          go_wp2_with fail
          refine hit.mono ?_
          rintro e x4 ⟨rfl, hx4⟩
          have hgr : x3.grownBy x4 none := by rw [hx4]; exact ⟨rfl, rfl, rfl, Nat.le_refl _, fun _ _ _ => rfl⟩
          have hbuf4 : Buf w.heap.size x4 (.slice (some ⟨g3, 0, none⟩) (l2.length + 1) cap3) (l2 ++ [58]) := hbuf3.kept hgr (Or.inr (by simp [Value.ownBlock]))
          have hb4 : Below w.heap.size x3 x4 := (Below.refl _ _).grown hgr (by omega) (fun k hk => by cases hk)
          have hs4 := hb4.size
          have HQ4 : Hid _ := K38.none hgr _ _ _ HQ3.out
          have HBL4 : Hid _ := HBL3.out.trans hb4
          have hl4 : (l2 ++ [58]).length = l2.length + 1 := by simp
          have hsz4 : (⟨(Lib.decDigits N1).toArray⟩ : ByteArray).size = (Lib.decDigits N1).length := rfl
          have hvb := fun k h => (hbuf4.lt k h).1
          clear hit hx4 hgr hbuf3 hb4 HQ3 HBL3 cn
          have hm1 : (l2 ++ [58]).length + (⟨(Lib.decDigits N1).toArray⟩ : ByteArray).size ≤ maxLen := by rw [hl4, hsz4]; unfold maxLen; omega
          have hm2 : (l2 ++ [58]).length + (⟨(Lib.decDigits N1).toArray⟩ : ByteArray).size ≤ 140737488355328 := by rw [hl4, hsz4]; omega
          have HS4 : Hid _ := hsz4
          have hB4 : w.heap.size ≤ x4.heap.size := by omega
          clear hsz4 hl4
          go_wp2_with (at_builtin; refine Lib.wpList_append_own_string _ rfl _ _ 104 9 rfl w.heap.size 5 i0 Tryz.underlying104 Tryz.underlying9 hinf hz0 hz1 hz2 (.slice (some ⟨g3, 0, none⟩) (l2.length + 1) cap3) (l2 ++ [58]).length (Lib.byteCells (l2 ++ [58])) rfl hbuf4 ⟨(Lib.decDigits N1).toArray⟩ rfl hm1 hm2 hB4 ?_)
          intro v5 x5 ho5 hg5 _
          have HB5 : Hid (Buf w.heap.size x5 v5 (L ++ A 2)) := by
            show Buf w.heap.size x5 v5 (L ++ A 2)
            rw [Lib.strCells_toArray] at ho5
            have := Buf.more (l := l2 ++ [58]) (m := Lib.decDigits N1) (by rw [List.length_append]; exact ho5)
            rw [HL2.out, HL0.out] at this
            rw [HA.out.2.2.1]
            simpa [ptext, List.append_assoc] using this
          have HQ5 : Hid _ := K38.grown hbuf4 hg5 _ _ _ HQ4.out
          have HBL5 : Hid _ := HBL4.out.grown hg5 (by omega) hvb
          clear ho5 hg5 hbuf4 HQ4 HBL4 hvb hm1 hm2
          go_wp2
          go_roundw
          case rel => exact ⟨2, by omega, rfl, HB5.out, HQ5.out, HBL5.out⟩
          case measure => simp [intOf]
        | 2, _ =>
          have hbn := HBN.out.2.2.2.1
          have hwl := wtext_len S3.data.toList
          rw [← size_data] at hwl
          obtain ⟨l0, hl0⟩ : ∃ l, l = L ++ A 2 := ⟨_, rfl⟩
          rw [← hl0] at hbuf
          have hll : l0.length = L.length + (A 2).length := by rw [hl0, List.length_append]
          rw [← hll] at hbn
          have HL0 : Hid (l0 = L ++ A 2) := hl0
          clear hl0 hll
          go_wp2_with (at_builtin; refine wpList_append_lies _ rfl _ _ 104 rfl w.heap.size 5 i0 _ 1 1 Tryz.underlying104 hinf hz0 hz1 hz2 rfl (by omega) u3 l0.length (Lib.byteCells l0) rfl (hbuf.alloc _) ⟨wr.heap.size, 0, none⟩ 1 1 [.int .u8 32] rfl rfl (World.news_of_block (cs := #[.int .u8 32]) (t := 5) (fr := (0, 0)) (heap_alloc_new wr _)) (by simp [Value.oneCell']) (by omega) (by unfold maxLen; omega) (by omega) (by simp; omega) (wr.heap.size + 1) (by simp) ?_)
          intro g1 cap1 x1 ho1 hg1 _ _
          obtain ⟨hbuf1, hb1, hk1⟩ := buf_byte (c := 32) ho1 hbuf _ hg1 hsx
          have hs1 := hb1.size
          clear ho1 hg1 hbuf
          have hl1 : (l0 ++ [32]).length = l0.length + 1 := by simp
          have haw := appendWord_any w.heap.size _ (l0 ++ [32]) S3 x1 hbuf1 (by omega) (by rw [hl1]; omega)
          have HQ1 : Hid _ := hk1 _ _ _ hqb
          have HBL1 : Hid _ := hbl.trans hb1
          clear hbuf1 hb1 hk1 hl1 hqb hbl
          go_wp2_with fail
          refine haw.mono ?_
          rintro e x2 ⟨v2, rfl, hbuf2, hb2, hk2⟩
          have hs2 := hb2.size
          obtain ⟨l2, hl2⟩ : ∃ l, l = l0 ++ [32] ++ wtext S3.data.toList := ⟨_, rfl⟩
          rw [← hl2] at hbuf2
          have hll2 : l0.length + 1 + (wtext S3.data.toList).length = l2.length := by rw [hl2]; simp; omega
          have HL2 : Hid (l2 = l0 ++ [32] ++ wtext S3.data.toList) := hl2
          have HQ2 : Hid _ := hk2 _ _ _ HQ1.out
          have HBL2 : Hid _ := HBL1.out.trans hb2
          clear haw hl2 hb2 hk2 HQ1 HBL1
          go_wp2_with (at_builtin; refine wpList_append_lies _ rfl _ _ 104 rfl w.heap.size 5 i0 _ 1 1 Tryz.underlying104 hinf hz0 hz1 hz2 rfl (by omega) v2 l2.length (Lib.byteCells l2) rfl (hbuf2.alloc _) ⟨x2.heap.size, 0, none⟩ 1 1 [.int .u8 58] rfl rfl (World.news_of_block (cs := #[.int .u8 58]) (t := 5) (fr := (0, 0)) (heap_alloc_new x2 _)) (by simp [Value.oneCell']) (by omega) (by unfold maxLen; omega) (by omega) (by simp; omega) (x2.heap.size + 1) (by simp) ?_)
          intro g3 cap3 x3 ho3 hg3 _ _
          obtain ⟨hbuf3, hb3, hk3⟩ := buf_byte (c := 58) ho3 hbuf2 _ hg3 (by omega)
          have hs3 := hb3.size
          have hqb3 := hk3 _ _ _ HQ2.out
          have hbl3 := HBL2.out.trans hb3
          have cn : x3.cell? ⟨H, 7, none⟩ = some (.int .i64 (N2 : Int)) := blk_cell hqb3 7 _ rfl
          have hnn := HW4.out.2.2.1
          have hit := itoa_small N2 (by omega) x3
          have HQ3 : Hid _ := hqb3
          have HBL3 : Hid _ := hbl3
          clear ho3 hg3 hbuf2 hb3 hk3 hqb3 hbl3 HQ2 HBL2
          go_wp2_with fail
          refine hit.mono ?_
          rintro e x4 ⟨rfl, hx4⟩
          have hgr : x3.grownBy x4 none := by rw [hx4]; exact ⟨rfl, rfl, rfl, Nat.le_refl _, fun _ _ _ => rfl⟩
          have hbuf4 : Buf w.heap.size x4 (.slice (some ⟨g3, 0, none⟩) (l2.length + 1) cap3) (l2 ++ [58]) := hbuf3.kept hgr (Or.inr (by simp [Value.ownBlock]))
          have hb4 : Below w.heap.size x3 x4 := (Below.refl _ _).grown hgr (by omega) (fun k hk => by cases hk)
          have hs4 := hb4.size
          have HQ4 : Hid _ := K38.none hgr _ _ _ HQ3.out
          have HBL4 : Hid _ := HBL3.out.trans hb4
          have hl4 : (l2 ++ [58]).length = l2.length + 1 := by simp
          have hsz4 : (⟨(Lib.decDigits N2).toArray⟩ : ByteArray).size = (Lib.decDigits N2).length := rfl
          have hvb := fun k h => (hbuf4.lt k h).1
          clear hit hx4 hgr hbuf3 hb4 HQ3 HBL3 cn
          have hm1 : (l2 ++ [58]).length + (⟨(Lib.decDigits N2).toArray⟩ : ByteArray).size ≤ maxLen := by rw [hl4, hsz4]; unfold maxLen; omega
          have hm2 : (l2 ++ [58]).length + (⟨(Lib.decDigits N2).toArray⟩ : ByteArray).size ≤ 140737488355328 := by rw [hl4, hsz4]; omega
          have HS4 : Hid _ := hsz4
          have hB4 : w.heap.size ≤ x4.heap.size := by omega
          clear hsz4 hl4
          go_wp2_with (at_builtin; refine Lib.wpList_append_own_string _ rfl _ _ 104 9 rfl w.heap.size 5 i0 Tryz.underlying104 Tryz.underlying9 hinf hz0 hz1 hz2 (.slice (some ⟨g3, 0, none⟩) (l2.length + 1) cap3) (l2 ++ [58]).length (Lib.byteCells (l2 ++ [58])) rfl hbuf4 ⟨(Lib.decDigits N2).toArray⟩ rfl hm1 hm2 hB4 ?_)
          intro v5 x5 ho5 hg5 _
          have HB5 : Hid (Buf w.heap.size x5 v5 (L ++ A 3)) := by
            show Buf w.heap.size x5 v5 (L ++ A 3)
            rw [Lib.strCells_toArray] at ho5
            have := Buf.more (l := l2 ++ [58]) (m := Lib.decDigits N2) (by rw [List.length_append]; exact ho5)
            rw [HL2.out, HL0.out] at this
            rw [HA.out.2.2.2.1]
            simpa [ptext, List.append_assoc] using this
          have HQ5 : Hid _ := K38.grown hbuf4 hg5 _ _ _ HQ4.out
          have HBL5 : Hid _ := HBL4.out.grown hg5 (by omega) hvb
          clear ho5 hg5 hbuf4 HQ4 HBL4 hvb hm1 hm2
          go_wp2
          go_roundw
          case rel => exact ⟨3, by omega, rfl, HB5.out, HQ5.out, HBL5.out⟩
          case measure => simp [intOf]
        | 3, _ =>
          have hbn := HBN.out.2.2.2.2
          have hwl := wtext_len S4.data.toList
          rw [← size_data] at hwl
          obtain ⟨l0, hl0⟩ : ∃ l, l = L ++ A 3 := ⟨_, rfl⟩
          rw [← hl0] at hbuf
          have hll : l0.length = L.length + (A 3).length := by rw [hl0, List.length_append]
          rw [← hll] at hbn
          have HL0 : Hid (l0 = L ++ A 3) := hl0
          clear hl0 hll
          go_wp2_with (at_builtin; refine wpList_append_lies _ rfl _ _ 104 rfl w.heap.size 5 i0 _ 1 1 Tryz.underlying104 hinf hz0 hz1 hz2 rfl (by omega) u3 l0.length (Lib.byteCells l0) rfl (hbuf.alloc _) ⟨wr.heap.size, 0, none⟩ 1 1 [.int .u8 32] rfl rfl (World.news_of_block (cs := #[.int .u8 32]) (t := 5) (fr := (0, 0)) (heap_alloc_new wr _)) (by simp [Value.oneCell']) (by omega) (by unfold maxLen; omega) (by omega) (by simp; omega) (wr.heap.size + 1) (by simp) ?_)
          intro g1 cap1 x1 ho1 hg1 _ _
          obtain ⟨hbuf1, hb1, hk1⟩ := buf_byte (c := 32) ho1 hbuf _ hg1 hsx
          have hs1 := hb1.size
          clear ho1 hg1 hbuf
          have hl1 : (l0 ++ [32]).length = l0.length + 1 := by simp
          have haw := appendWord_any w.heap.size _ (l0 ++ [32]) S4 x1 hbuf1 (by omega) (by rw [hl1]; omega)
          have HQ1 : Hid _ := hk1 _ _ _ hqb
          have HBL1 : Hid _ := hbl.trans hb1
          clear hbuf1 hb1 hk1 hl1 hqb hbl
          go_wp2_with fail
          refine haw.mono ?_
          rintro e x2 ⟨v2, rfl, hbuf2, hb2, hk2⟩
          have hs2 := hb2.size
          obtain ⟨l2, hl2⟩ : ∃ l, l = l0 ++ [32] ++ wtext S4.data.toList := ⟨_, rfl⟩
          rw [← hl2] at hbuf2
          have hll2 : l0.length + 1 + (wtext S4.data.toList).length = l2.length := by rw [hl2]; simp; omega
          have HL2 : Hid (l2 = l0 ++ [32] ++ wtext S4.data.toList) := hl2
          have HQ2 : Hid _ := hk2 _ _ _ HQ1.out
          have HBL2 : Hid _ := HBL1.out.trans hb2
          clear haw hl2 hb2 hk2 HQ1 HBL1
          go_wp2_with (at_builtin; refine wpList_append_lies _ rfl _ _ 104 rfl w.heap.size 5 i0 _ 1 1 Tryz.underlying104 hinf hz0 hz1 hz2 rfl (by omega) v2 l2.length (Lib.byteCells l2) rfl (hbuf2.alloc _) ⟨x2.heap.size, 0, none⟩ 1 1 [.int .u8 58] rfl rfl (World.news_of_block (cs := #[.int .u8 58]) (t := 5) (fr := (0, 0)) (heap_alloc_new x2 _)) (by simp [Value.oneCell']) (by omega) (by unfold maxLen; omega) (by omega) (by simp; omega) (x2.heap.size + 1) (by simp) ?_)
          intro g3 cap3 x3 ho3 hg3 _ _
          obtain ⟨hbuf3, hb3, hk3⟩ := buf_byte (c := 58) ho3 hbuf2 _ hg3 (by omega)
          have hs3 := hb3.size
          have hqb3 := hk3 _ _ _ HQ2.out
          have hbl3 := HBL2.out.trans hb3
          have cn : x3.cell? ⟨H, 8, none⟩ = some (.int .i64 (N3 : Int)) := blk_cell hqb3 8 _ rfl
          have hnn := HW4.out.2.2.2
          have hit := itoa_small N3 (by omega) x3
          have HQ3 : Hid _ := hqb3
          have HBL3 : Hid _ := hbl3
          clear ho3 hg3 hbuf2 hb3 hk3 hqb3 hbl3 HQ2 HBL2
          go_wp2_with fail
          refine hit.mono ?_
          rintro e x4 ⟨rfl, hx4⟩
          have hgr : x3.grownBy x4 none := by rw [hx4]; exact ⟨rfl, rfl, rfl, Nat.le_refl _, fun _ _ _ => rfl⟩
          have hbuf4 : Buf w.heap.size x4 (.slice (some ⟨g3, 0, none⟩) (l2.length + 1) cap3) (l2 ++ [58]) := hbuf3.kept hgr (Or.inr (by simp [Value.ownBlock]))
          have hb4 : Below w.heap.size x3 x4 := (Below.refl _ _).grown hgr (by omega) (fun k hk => by cases hk)
          have hs4 := hb4.size
          have HQ4 : Hid _ := K38.none hgr _ _ _ HQ3.out
          have HBL4 : Hid _ := HBL3.out.trans hb4
          have hl4 : (l2 ++ [58]).length = l2.length + 1 := by simp
          have hsz4 : (⟨(Lib.decDigits N3).toArray⟩ : ByteArray).size = (Lib.decDigits N3).length := rfl
          have hvb := fun k h => (hbuf4.lt k h).1
          clear hit hx4 hgr hbuf3 hb4 HQ3 HBL3 cn
          have hm1 : (l2 ++ [58]).length + (⟨(Lib.decDigits N3).toArray⟩ : ByteArray).size ≤ maxLen := by rw [hl4, hsz4]; unfold maxLen; omega
          have hm2 : (l2 ++ [58]).length + (⟨(Lib.decDigits N3).toArray⟩ : ByteArray).size ≤ 140737488355328 := by rw [hl4, hsz4]; omega
          have HS4 : Hid _ := hsz4
          have hB4 : w.heap.size ≤ x4.heap.size := by omega
          clear hsz4 hl4
          go_wp2_with (at_builtin; refine Lib.wpList_append_own_string _ rfl _ _ 104 9 rfl w.heap.size 5 i0 Tryz.underlying104 Tryz.underlying9 hinf hz0 hz1 hz2 (.slice (some ⟨g3, 0, none⟩) (l2.length + 1) cap3) (l2 ++ [58]).length (Lib.byteCells (l2 ++ [58])) rfl hbuf4 ⟨(Lib.decDigits N3).toArray⟩ rfl hm1 hm2 hB4 ?_)
          intro v5 x5 ho5 hg5 _
          have HB5 : Hid (Buf w.heap.size x5 v5 (L ++ A 4)) := by
            show Buf w.heap.size x5 v5 (L ++ A 4)
            rw [Lib.strCells_toArray] at ho5
            have := Buf.more (l := l2 ++ [58]) (m := Lib.decDigits N3) (by rw [List.length_append]; exact ho5)
            rw [HL2.out, HL0.out] at this
            rw [HA.out.2.2.2.2]
            simpa [ptext, List.append_assoc] using this
          have HQ5 : Hid _ := K38.grown hbuf4 hg5 _ _ _ HQ4.out
          have HBL5 : Hid _ := HBL4.out.grown hg5 (by omega) hvb
          clear ho5 hg5 hbuf4 HQ4 HBL4 hvb hm1 hm2
          go_wp2
          go_roundw
          case rel => exact ⟨4, by omega, rfl, HB5.out, HQ5.out, HBL5.out⟩
          case measure => simp [intOf]
        | 4, _ =>
          have hlen := HLEN.out
          obtain ⟨l0, hl0⟩ : ∃ l, l = L ++ A 4 := ⟨_, rfl⟩
          rw [← hl0] at hbuf
          have hll : l0.length = L.length + (A 4).length := by rw [hl0, List.length_append]
          rw [← hll] at hlen
          have HL0 : Hid (l0 = L ++ A 4) := hl0
          clear hl0 hll
          go_wp2_with (at_builtin; refine wpList_append_lies _ rfl _ _ 104 rfl w.heap.size 5 i0 _ 1 1 Tryz.underlying104 hinf hz0 hz1 hz2 rfl (by omega) u3 l0.length (Lib.byteCells l0) rfl (hbuf.alloc _) ⟨wr.heap.size, 0, none⟩ 1 1 [.int .u8 10] rfl rfl (World.news_of_block (cs := #[.int .u8 10]) (t := 5) (fr := (0, 0)) (heap_alloc_new wr _)) (by simp [Value.oneCell']) (by omega) (by unfold maxLen; omega) (by omega) (by simp; omega) (wr.heap.size + 1) (by simp) ?_)
          intro g1 cap1 x1 ho1 hg1 _ _
          obtain ⟨hbuf1, hb1, -⟩ := buf_byte (c := 10) ho1 hbuf _ hg1 hsx
          have HB5 : Hid (Buf w.heap.size x1 (.slice (some ⟨g1, 0, none⟩) (l0.length + 1) cap1) (textM (sts.take (i + 1)))) := by
            show Buf w.heap.size x1 _ (textM (sts.take (i + 1)))
            rw [HEND.out, ← HL0.out]
            exact hbuf1
          have HBL5 : Hid _ := hbl.trans hb1
          clear ho1 hg1 hbuf1 hb1 hbuf hqb hbl
          go_wp2
          go_roundw
          case rel => exact ⟨i + 1, by omega, by go_num, HB5.out, HBL5.out⟩
          case measure => simp [intOf]; omega
    · obtain rfl : i = n := by omega
      have HTE : Hid (textM (sts.take i) = textM sts) := by
        show textM (sts.take i) = textM sts
        rw [HN.out, List.take_length]
      rw [HTE.out] at hbuf
      have hpos : 0 < (textM sts).length := by
        obtain ⟨q, hq⟩ : ∃ q, sts[0]? = some q := ⟨sts[0]'(by have := HN.out; omega), List.getElem?_eq_getElem _⟩
        have := (textM_at sts 0 q hq).2
        have h2 : 0 < (lineText q).length := by unfold lineText; simp
        omega
      obtain ⟨T, hT⟩ : ∃ T, T = textM sts := ⟨_, rfl⟩
      rw [← hT] at hbuf hpos
      have HTT : Hid (T = textM sts) := hT
      clear hT
      rcases hbuf.2 with ⟨-, h00⟩ | ⟨gg, cc, cur, rfl, -, -, -, -, -, -⟩
      · omega
      · have hcv := run_convert_bytes_back (P := Tryz.prog) wr 104 9 5 ⟨gg, 0, none⟩ cc T Tryz.underlying104 Tryz.underlying5 Tryz.underlying9 (fun j hj => hbuf.cells (g := gg) rfl j _ (by simp [Lib.byteCells, hj]))
        go_wp2
        go_ret
        exact ⟨by rw [← HTT.out]; rfl, hb⟩
end Go.Proofs.YtmbapmbpnnaanabGreatDoor.Tx
