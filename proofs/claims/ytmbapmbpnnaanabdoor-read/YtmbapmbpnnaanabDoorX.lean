import Derived.Test.YtmbapmbpnnaanabDoorV
namespace Go.Proofs.YtmbapmbpnnaanabDoor
open Go.RowKit

def ptext (sd : List UInt8) (n : Nat) : List UInt8 := [32] ++ wtext sd ++ [58] ++ Lib.decDigits n
def accT (f s0 s1 s2 s3 : List UInt8) (n0 n1 n2 n3 : Nat) : Nat → List UInt8
  | 0 => wtext f
  | 1 => wtext f ++ ptext s0 n0
  | 2 => wtext f ++ ptext s0 n0 ++ ptext s1 n1
  | 3 => wtext f ++ ptext s0 n0 ++ ptext s1 n1 ++ ptext s2 n2
  | _ => wtext f ++ ptext s0 n0 ++ ptext s1 n1 ++ ptext s2 n2 ++ ptext s3 n3
def lineText (q : St) : List UInt8 := accT q.fin (q.sd.getD 0 []) (q.sd.getD 1 []) (q.sd.getD 2 []) (q.sd.getD 3 []) (q.nx.getD 0 0) (q.nx.getD 1 0) (q.nx.getD 2 0) (q.nx.getD 3 0) 4 ++ [10]
def textM (sts : List St) : List UInt8 := sts.flatMap lineText
theorem wtext_len (l : List UInt8) : l.length ≤ (wtext l).length ∧ 1 ≤ (wtext l).length := by
  unfold wtext
  split
  · rename_i h; rw [h]; simp
  · rename_i h
    have : 0 < l.length := List.length_pos_iff.2 h
    omega
theorem textM_at (sts : List St) (i : Nat) (q : St) (h : sts[i]? = some q) : textM (sts.take (i + 1)) = textM (sts.take i) ++ lineText q ∧ (textM (sts.take i)).length + (lineText q).length ≤ (textM sts).length := by
  have e : textM (sts.take (i + 1)) = textM (sts.take i) ++ lineText q := by
    rw [List.take_add_one, h]
    simp [textM]
  refine ⟨e, ?_⟩
  have : textM sts = textM (sts.take (i + 1)) ++ textM (sts.drop (i + 1)) := by
    unfold textM
    rw [← List.flatMap_append, List.take_append_drop]
  rw [this, e]
  simp

/-- A byte more. -/
theorem buf_byte {B : Nat} {w0 w1 : World} {v : Value} {l : List UInt8} {c : UInt8} {gg cap : Nat} (h : w1.ownsRow B 5 1 (.slice (some ⟨gg, 0, none⟩) (l.length + 1) cap) (l.length + 1) (Lib.byteCells l ++ [.int .u8 (c.toNat : Int)])) (ho : Buf B w0 v l) (o : Obj) (hg : (w0.alloc o).grownBy w1 v.ownBlock) (hB : B ≤ w0.heap.size) :
    Buf B w1 (.slice (some ⟨gg, 0, none⟩) (l.length + 1) cap) (l ++ [c]) ∧ Below B w0 w1 ∧ K38 w0 w1 :=
  ⟨Buf.more (m := [c]) h, ((Below.refl _ _).alloc hB _).grown hg (by simp; omega) (fun k hk => (ho.lt k hk).1), (K38.alloc w0 o).trans (K38.grown (ho.alloc o) hg)⟩

abbrev powName : String := "internal/strconv.uint64pow10"

set_option maxHeartbeats 4000000 in
set_option maxRecDepth 100000 in
theorem text_any (m : Nat) (v : Value) (sts : List St) (w : World) (hm : w.cell? ⟨m, 0, none⟩ = some v) (hst : Sts w v sts) (h0 : 0 < sts.length) (hl : sts.length ≤ 200) (hin : Within sts) (hlim : (textM sts).length ≤ 1048576)
    (htab : Lib.TabIs Tryd.prog w powName .u64 Lib.pow10Tab) :
    Calls Tryd.prog 6 #[.pointer (some ⟨m, 0, none⟩)] w fun e w' => e = .returned (.string ⟨(textM sts).toArray⟩) ∧ Below w.heap.size w w' := by
  obtain ⟨i0, hinf, hz0, hz1, hz2⟩ := info_parts Tryd.info5
  have hT := Lib.tabBelow_of_tabIs htab
  obtain ⟨g, cap, rfl, hg, hcap⟩ := hst.form h0
  obtain ⟨n, hn⟩ : ∃ n, n = sts.length := ⟨_, rfl⟩
  rw [← hn] at h0 hl hcap hst hm
  have HN : Hid (n = sts.length) := hn
  have HT : Hid (Lib.TabBelow Tryd.prog w.heap.size w powName .u64 Lib.pow10Tab) := hT
  have HIN : Hid (Within sts) := hin
  have HLIM : Hid ((textM sts).length ≤ 1048576) := hlim
  have HST : Hid (Sts w (.slice (some ⟨g, 0, none⟩) n cap) sts) := hst
  clear hn hT hin hst htab hlim
  go_enter Tryd.func6, Tryd.ntmps6
  go_wp2_with fail
  go_loopw [3, 16] (fun vv ii wr => ∃ (i : Nat), i ≤ n ∧ ii = .int .i64 (i : Int) ∧ Buf w.heap.size wr vv (textM (sts.take i)) ∧ Below w.heap.size w wr) (fun _ ii _ => n - (intOf ii).toNat)
  case atStart => exact ⟨0, by omega, rfl, World.ownsRow_nil _ _ _ _, Below.refl _ _⟩
  case round =>
    obtain ⟨i, hi, rfl, hbuf, hb⟩ := hrel
    have hszr := hb.size
    by_cases hlt : i < n
    · obtain ⟨q, hq⟩ : ∃ q, sts[i]? = some q := ⟨sts[i]'(by have := HN.out; omega), List.getElem?_eq_getElem _⟩
      obtain ⟨S0, S1, S2, S3, S4, N0, N1, N2, N3, hS, a0, a1, a2, a3, a4, a5, a6, a7, a8⟩ := (HST.out.below hb (Nat.le_refl _)).nine i q hq
      obtain ⟨hta, htl⟩ := textM_at sts i q hq
      obtain ⟨A, hA⟩ : ∃ A, A = accT S0.data.toList S1.data.toList S2.data.toList S3.data.toList S4.data.toList N0 N1 N2 N3 := ⟨_, rfl⟩
      have hlA : lineText q = A 4 ++ [10] := by
        obtain ⟨e1, e2, e3⟩ := hS
        simp only [St.saids, St.nexts, List.map_cons, List.map_nil, List.cons.injEq, and_true] at e2 e3
        obtain ⟨f1, f2, f3, f4⟩ := e2
        obtain ⟨g1, g2, g3, g4⟩ := e3
        rw [hA, e1, f1, f2, f3, f4, g1, g2, g3, g4]
        rfl
      have A0 : A 0 = wtext S0.data.toList := by rw [hA]; rfl
      have A1 : A 1 = A 0 ++ ptext S1.data.toList N0 := by rw [hA]; rfl
      have A2 : A 2 = A 1 ++ ptext S2.data.toList N1 := by rw [hA]; rfl
      have A3 : A 3 = A 2 ++ ptext S3.data.toList N2 := by rw [hA]; rfl
      have A4 : A 4 = A 3 ++ ptext S4.data.toList N3 := by rw [hA]; rfl
      have hw4 : N0 < 200 ∧ N1 < 200 ∧ N2 < 200 ∧ N3 < 200 := by
        have hmm := HIN.out q (List.mem_of_getElem? hq)
        rw [← hS.2.2, ← HN.out] at hmm
        refine ⟨?_, ?_, ?_, ?_⟩
        · have := hmm N0 (by simp); omega
        · have := hmm N1 (by simp); omega
        · have := hmm N2 (by simp); omega
        · have := hmm N3 (by simp); omega
      obtain ⟨L, hL⟩ : ∃ L, L = textM (sts.take i) := ⟨_, rfl⟩
      rw [← hL] at hbuf hta htl
      have hlen : L.length + (A 4).length + 1 ≤ 1048576 := by
        rw [hlA, List.length_append] at htl
        have := HLIM.out
        simp at htl
        omega
      have l4 : (A 4).length = (A 3).length + (ptext S4.data.toList N3).length := by rw [A4, List.length_append]
      have l3 : (A 3).length = (A 2).length + (ptext S3.data.toList N2).length := by rw [A3, List.length_append]
      have l2 : (A 2).length = (A 1).length + (ptext S2.data.toList N1).length := by rw [A2, List.length_append]
      have l1 : (A 1).length = (A 0).length + (ptext S1.data.toList N0).length := by rw [A1, List.length_append]
      have l0 : (A 0).length = (wtext S0.data.toList).length := by rw [A0]
      have hpl : ∀ (sd : List UInt8) (k : Nat), (ptext sd k).length = (wtext sd).length + 2 + (Lib.decDigits k).length := fun sd k => by simp [ptext]; omega
      have hbnd : L.length + S0.size ≤ 1048576 ∧ L.length + (A 0).length + (wtext S1.data.toList).length + 2 + (Lib.decDigits N0).length ≤ 1048576 ∧ L.length + (A 1).length + (wtext S2.data.toList).length + 2 + (Lib.decDigits N1).length ≤ 1048576 ∧
          L.length + (A 2).length + (wtext S3.data.toList).length + 2 + (Lib.decDigits N2).length ≤ 1048576 ∧ L.length + (A 3).length + (wtext S4.data.toList).length + 2 + (Lib.decDigits N3).length ≤ 1048576 := by
        have p1 := hpl S1.data.toList N0
        have p2 := hpl S2.data.toList N1
        have p3 := hpl S3.data.toList N2
        have p4 := hpl S4.data.toList N3
        have w0 := (wtext_len S0.data.toList).1
        rw [← size_data] at w0
        omega
      have HA : Hid (A 0 = wtext S0.data.toList ∧ A 1 = A 0 ++ ptext S1.data.toList N0 ∧ A 2 = A 1 ++ ptext S2.data.toList N1 ∧ A 3 = A 2 ++ ptext S3.data.toList N2 ∧ A 4 = A 3 ++ ptext S4.data.toList N3) := ⟨A0, A1, A2, A3, A4⟩
      have HBN : Hid _ := hbnd
      have HEND : Hid (textM (sts.take (i + 1)) = L ++ A 4 ++ [10]) := by
        show textM (sts.take (i + 1)) = L ++ A 4 ++ [10]
        rw [hta, hlA, List.append_assoc]
      have HLEN : Hid (L.length + (A 4).length + 1 ≤ 1048576) := hlen
      have HW4 : Hid _ := hw4
      have HLL : Hid (L = textM (sts.take i)) := hL
      have b0 : L.length + S0.size + 1 ≤ 100000000 := by have := hbnd.1; omega
      have HBUF : Hid (Buf w.heap.size wr u3 L) := hbuf
      have HQQ : Hid (sts[i]? = some q) := hq
      clear hA hlA A0 A1 A2 A3 A4 l0 l1 l2 l3 l4 hpl hbnd hta htl hlen hw4 hS hq hL
      have haw := fun o => appendWord_any w.heap.size u3 L S0 (wr.alloc o) (hbuf.alloc o) (by simp; omega) b0
      clear hbuf
      go_wp2_with fail
      refine (haw _).mono ?_
      rintro e w1 ⟨v1, rfl, hbuf1, hb1, hk1⟩
      clear haw
      obtain ⟨H, hH⟩ : ∃ H, H = wr.heap.size := ⟨_, rfl⟩
      have hqb : w1.heap[H]? = some (.cells #[.string S0, .string S1, .string S2, .string S3, .string S4, .int .i64 (N0 : Int), .int .i64 (N1 : Int), .int .i64 (N2 : Int), .int .i64 (N3 : Int)] 38 (0, 0)) := by
        rw [hH]
        exact hk1 _ _ _ (heap_alloc_new wr _)
      have hB1 : Below w.heap.size w w1 := (hb.alloc (by omega) _).trans hb1
      rw [← hH]
      have q1 : w1.cell? ⟨H, 1, none⟩ = some (.string S1) := blk_cell hqb 1 _ rfl
      have q2 : w1.cell? ⟨H, 2, none⟩ = some (.string S2) := blk_cell hqb 2 _ rfl
      have q3 : w1.cell? ⟨H, 3, none⟩ = some (.string S3) := blk_cell hqb 3 _ rfl
      have q4 : w1.cell? ⟨H, 4, none⟩ = some (.string S4) := blk_cell hqb 4 _ rfl
      have HQB : Hid (w1.heap[H]? = some (.cells #[.string S0, .string S1, .string S2, .string S3, .string S4, .int .i64 (N0 : Int), .int .i64 (N1 : Int), .int .i64 (N2 : Int), .int .i64 (N3 : Int)] 38 (0, 0))) := hqb
      have HB1 : Hid (Buf w.heap.size w1 v1 (L ++ A 0)) := by
        show Buf w.heap.size w1 v1 (L ++ A 0)
        rw [HA.out.1]; exact hbuf1
      have HBL1 : Hid (Below w.heap.size w w1) := hB1
      clear hqb hB1 hbuf1 hb1 hk1 hH hm a0 a1 a2 a3 a4 a5 a6 a7 a8
      go_wp2
      clear q1 q2 q3 q4
      have ix0 := ix35_0 S1 S2 S3 S4
      have ix1 := ix35_1 S1 S2 S3 S4
      have ix2 := ix35_2 S1 S2 S3 S4
      have ix3 := ix35_3 S1 S2 S3 S4
      go_loopw [3, 26] (fun vv jj wx => ∃ (j : Nat), j ≤ 4 ∧ jj = .int .i64 (j : Int) ∧ Buf w.heap.size wx vv (L ++ A j) ∧ wx.heap[H]? = some (.cells #[.string S0, .string S1, .string S2, .string S3, .string S4, .int .i64 (N0 : Int), .int .i64 (N1 : Int), .int .i64 (N2 : Int), .int .i64 (N3 : Int)] 38 (0, 0)) ∧ Below w.heap.size w wx) (fun _ jj _ => 4 - (intOf jj).toNat)
      case atStart => exact ⟨0, by omega, rfl, HB1.out, HQB.out, HBL1.out⟩
      case round =>
        obtain ⟨j, hj, rfl, hbuf, hqb, hbl⟩ := hrel
        clear HB1 HQB HBL1 HBUF
        have hsx := hbl.size
        match j, hj with
        | 0, _ =>
          have hbn := HBN.out.2.1
          have hwl := wtext_len S1.data.toList
          rw [← size_data] at hwl
          obtain ⟨l0, hl0⟩ : ∃ l, l = L ++ A 0 := ⟨_, rfl⟩
          rw [← hl0] at hbuf
          have hll : l0.length = L.length + (A 0).length := by rw [hl0, List.length_append]
          rw [← hll] at hbn
          have HL0 : Hid (l0 = L ++ A 0) := hl0
          clear hl0 hll
          go_wp2_with (at_builtin; refine wpList_append_lies _ rfl _ _ 34 rfl w.heap.size 5 i0 _ 1 1 Tryd.underlying34 hinf hz0 hz1 hz2 rfl (by omega) u3 l0.length (Lib.byteCells l0) rfl (hbuf.alloc _) ⟨wr.heap.size, 0, none⟩ 1 1 [.int .u8 32] rfl rfl (World.news_of_block (cs := #[.int .u8 32]) (t := 5) (fr := (0, 0)) (heap_alloc_new wr _)) (by simp [Value.oneCell']) (by omega) (by unfold maxLen; omega) (by omega) (by simp; omega) (wr.heap.size + 1) (by simp) ?_)
          intro g1 cap1 x1 ho1 hg1 _ _
          obtain ⟨hbuf1, hb1, hk1⟩ := buf_byte (c := 32) ho1 hbuf _ hg1 hsx
          have hs1 := hb1.size
          clear ho1 hg1 hbuf
          have hl1 : (l0 ++ [32]).length = l0.length + 1 := by simp
          have haw := appendWord_any w.heap.size _ (l0 ++ [32]) S1 x1 hbuf1 (by omega) (by rw [hl1]; omega)
          have HQ1 : Hid _ := hk1 _ _ _ hqb
          have HBL1 : Hid _ := hbl.trans hb1
          clear hbuf1 hb1 hk1 hl1 hqb hbl
          go_wp2_with fail
          refine haw.mono ?_
          rintro e x2 ⟨v2, rfl, hbuf2, hb2, hk2⟩
          have hs2 := hb2.size
          obtain ⟨l2, hl2⟩ : ∃ l, l = l0 ++ [32] ++ wtext S1.data.toList := ⟨_, rfl⟩
          rw [← hl2] at hbuf2
          have hll2 : l0.length + 1 + (wtext S1.data.toList).length = l2.length := by rw [hl2]; simp; omega
          have HL2 : Hid (l2 = l0 ++ [32] ++ wtext S1.data.toList) := hl2
          have HQ2 : Hid _ := hk2 _ _ _ HQ1.out
          have HBL2 : Hid _ := HBL1.out.trans hb2
          clear haw hl2 hb2 hk2 HQ1 HBL1
          go_wp2_with (at_builtin; refine wpList_append_lies _ rfl _ _ 34 rfl w.heap.size 5 i0 _ 1 1 Tryd.underlying34 hinf hz0 hz1 hz2 rfl (by omega) v2 l2.length (Lib.byteCells l2) rfl (hbuf2.alloc _) ⟨x2.heap.size, 0, none⟩ 1 1 [.int .u8 58] rfl rfl (World.news_of_block (cs := #[.int .u8 58]) (t := 5) (fr := (0, 0)) (heap_alloc_new x2 _)) (by simp [Value.oneCell']) (by omega) (by unfold maxLen; omega) (by omega) (by simp; omega) (x2.heap.size + 1) (by simp) ?_)
          intro g3 cap3 x3 ho3 hg3 _ _
          obtain ⟨hbuf3, hb3, hk3⟩ := buf_byte (c := 58) ho3 hbuf2 _ hg3 (by omega)
          have hs3 := hb3.size
          have hqb3 := hk3 _ _ _ HQ2.out
          have hbl3 := HBL2.out.trans hb3
          have cn : x3.cell? ⟨H, 5, none⟩ = some (.int .i64 (N0 : Int)) := blk_cell hqb3 5 _ rfl
          have hnn := HW4.out.1
          have hit := strconvItoa (N0 : Int) (by omega) (by omega) x3 (HT.out.on hbl3).here
          rw [Lib.itoa_nonneg] at hit
          have HQ3 : Hid _ := hqb3
          have HBL3 : Hid _ := hbl3
          clear ho3 hg3 hbuf2 hb3 hk3 hqb3 hbl3 HQ2 HBL2
          go_wp2_with fail
          refine hit.mono ?_
          rintro e x4 ⟨rfl, kk, os, hx4⟩
          have hgr := grow_grown x3 kk os
          rw [← hx4] at hgr
          have hbuf4 : Buf w.heap.size x4 (.slice (some ⟨g3, 0, none⟩) (l2.length + 1) cap3) (l2 ++ [58]) := hbuf3.kept hgr (Or.inr (by simp [Value.ownBlock]))
          have hb4 : Below w.heap.size x3 x4 := (Below.refl _ _).grown hgr (by omega) (fun k hk => by cases hk)
          have hs4 := hb4.size
          have HQ4 : Hid _ := K38.none hgr _ _ _ HQ3.out
          have HBL4 : Hid _ := HBL3.out.trans hb4
          have hl4 : (l2 ++ [58]).length = l2.length + 1 := by simp
          have hsz4 : (⟨(Lib.decDigits N0).toArray⟩ : ByteArray).size = (Lib.decDigits N0).length := rfl
          have hvb := fun k h => (hbuf4.lt k h).1
          clear hit hx4 hgr hbuf3 hb4 HQ3 HBL3 cn
          have hm1 : (l2 ++ [58]).length + (⟨(Lib.decDigits N0).toArray⟩ : ByteArray).size ≤ maxLen := by rw [hl4, hsz4]; unfold maxLen; omega
          have hm2 : (l2 ++ [58]).length + (⟨(Lib.decDigits N0).toArray⟩ : ByteArray).size ≤ 140737488355328 := by rw [hl4, hsz4]; omega
          have HS4 : Hid _ := hsz4
          have hB4 : w.heap.size ≤ x4.heap.size := by omega
          clear hsz4 hl4
          go_wp2_with (at_builtin; refine Lib.wpList_append_own_string _ rfl _ _ 34 9 rfl w.heap.size 5 i0 Tryd.underlying34 Tryd.underlying9 hinf hz0 hz1 hz2 (.slice (some ⟨g3, 0, none⟩) (l2.length + 1) cap3) (l2 ++ [58]).length (Lib.byteCells (l2 ++ [58])) rfl hbuf4 ⟨(Lib.decDigits N0).toArray⟩ rfl hm1 hm2 hB4 ?_)
          intro v5 x5 ho5 hg5 _
          have HB5 : Hid (Buf w.heap.size x5 v5 (L ++ A 1)) := by
            show Buf w.heap.size x5 v5 (L ++ A 1)
            rw [Lib.strCells_toArray] at ho5
            have := Buf.more (l := l2 ++ [58]) (m := Lib.decDigits N0) (by rw [List.length_append]; exact ho5)
            rw [HL2.out, HL0.out] at this
            rw [HA.out.2.1]
            simpa [ptext, List.append_assoc] using this
          have HQ5 : Hid _ := K38.grown hbuf4 hg5 _ _ _ HQ4.out
          have HBL5 : Hid _ := HBL4.out.grown hg5 (by omega) hvb
          clear ho5 hg5 hbuf4 HQ4 HBL4 hvb hm1 hm2
          go_wp2
          go_roundw
          case rel => exact ⟨1, by omega, rfl, HB5.out, HQ5.out, HBL5.out⟩
          case measure => simp [intOf]
        | 1, _ =>
          have hbn := HBN.out.2.2.1
          have hwl := wtext_len S2.data.toList
          rw [← size_data] at hwl
          obtain ⟨l0, hl0⟩ : ∃ l, l = L ++ A 1 := ⟨_, rfl⟩
          rw [← hl0] at hbuf
          have hll : l0.length = L.length + (A 1).length := by rw [hl0, List.length_append]
          rw [← hll] at hbn
          have HL0 : Hid (l0 = L ++ A 1) := hl0
          clear hl0 hll
          go_wp2_with (at_builtin; refine wpList_append_lies _ rfl _ _ 34 rfl w.heap.size 5 i0 _ 1 1 Tryd.underlying34 hinf hz0 hz1 hz2 rfl (by omega) u3 l0.length (Lib.byteCells l0) rfl (hbuf.alloc _) ⟨wr.heap.size, 0, none⟩ 1 1 [.int .u8 32] rfl rfl (World.news_of_block (cs := #[.int .u8 32]) (t := 5) (fr := (0, 0)) (heap_alloc_new wr _)) (by simp [Value.oneCell']) (by omega) (by unfold maxLen; omega) (by omega) (by simp; omega) (wr.heap.size + 1) (by simp) ?_)
          intro g1 cap1 x1 ho1 hg1 _ _
          obtain ⟨hbuf1, hb1, hk1⟩ := buf_byte (c := 32) ho1 hbuf _ hg1 hsx
          have hs1 := hb1.size
          clear ho1 hg1 hbuf
          have hl1 : (l0 ++ [32]).length = l0.length + 1 := by simp
          have haw := appendWord_any w.heap.size _ (l0 ++ [32]) S2 x1 hbuf1 (by omega) (by rw [hl1]; omega)
          have HQ1 : Hid _ := hk1 _ _ _ hqb
          have HBL1 : Hid _ := hbl.trans hb1
          clear hbuf1 hb1 hk1 hl1 hqb hbl
          go_wp2_with fail
          refine haw.mono ?_
          rintro e x2 ⟨v2, rfl, hbuf2, hb2, hk2⟩
          have hs2 := hb2.size
          obtain ⟨l2, hl2⟩ : ∃ l, l = l0 ++ [32] ++ wtext S2.data.toList := ⟨_, rfl⟩
          rw [← hl2] at hbuf2
          have hll2 : l0.length + 1 + (wtext S2.data.toList).length = l2.length := by rw [hl2]; simp; omega
          have HL2 : Hid (l2 = l0 ++ [32] ++ wtext S2.data.toList) := hl2
          have HQ2 : Hid _ := hk2 _ _ _ HQ1.out
          have HBL2 : Hid _ := HBL1.out.trans hb2
          clear haw hl2 hb2 hk2 HQ1 HBL1
          go_wp2_with (at_builtin; refine wpList_append_lies _ rfl _ _ 34 rfl w.heap.size 5 i0 _ 1 1 Tryd.underlying34 hinf hz0 hz1 hz2 rfl (by omega) v2 l2.length (Lib.byteCells l2) rfl (hbuf2.alloc _) ⟨x2.heap.size, 0, none⟩ 1 1 [.int .u8 58] rfl rfl (World.news_of_block (cs := #[.int .u8 58]) (t := 5) (fr := (0, 0)) (heap_alloc_new x2 _)) (by simp [Value.oneCell']) (by omega) (by unfold maxLen; omega) (by omega) (by simp; omega) (x2.heap.size + 1) (by simp) ?_)
          intro g3 cap3 x3 ho3 hg3 _ _
          obtain ⟨hbuf3, hb3, hk3⟩ := buf_byte (c := 58) ho3 hbuf2 _ hg3 (by omega)
          have hs3 := hb3.size
          have hqb3 := hk3 _ _ _ HQ2.out
          have hbl3 := HBL2.out.trans hb3
          have cn : x3.cell? ⟨H, 6, none⟩ = some (.int .i64 (N1 : Int)) := blk_cell hqb3 6 _ rfl
          have hnn := HW4.out.2.1
          have hit := strconvItoa (N1 : Int) (by omega) (by omega) x3 (HT.out.on hbl3).here
          rw [Lib.itoa_nonneg] at hit
          have HQ3 : Hid _ := hqb3
          have HBL3 : Hid _ := hbl3
          clear ho3 hg3 hbuf2 hb3 hk3 hqb3 hbl3 HQ2 HBL2
          go_wp2_with fail
          refine hit.mono ?_
          rintro e x4 ⟨rfl, kk, os, hx4⟩
          have hgr := grow_grown x3 kk os
          rw [← hx4] at hgr
          have hbuf4 : Buf w.heap.size x4 (.slice (some ⟨g3, 0, none⟩) (l2.length + 1) cap3) (l2 ++ [58]) := hbuf3.kept hgr (Or.inr (by simp [Value.ownBlock]))
          have hb4 : Below w.heap.size x3 x4 := (Below.refl _ _).grown hgr (by omega) (fun k hk => by cases hk)
          have hs4 := hb4.size
          have HQ4 : Hid _ := K38.none hgr _ _ _ HQ3.out
          have HBL4 : Hid _ := HBL3.out.trans hb4
          have hl4 : (l2 ++ [58]).length = l2.length + 1 := by simp
          have hsz4 : (⟨(Lib.decDigits N1).toArray⟩ : ByteArray).size = (Lib.decDigits N1).length := rfl
          have hvb := fun k h => (hbuf4.lt k h).1
          clear hit hx4 hgr hbuf3 hb4 HQ3 HBL3 cn
          have hm1 : (l2 ++ [58]).length + (⟨(Lib.decDigits N1).toArray⟩ : ByteArray).size ≤ maxLen := by rw [hl4, hsz4]; unfold maxLen; omega
          have hm2 : (l2 ++ [58]).length + (⟨(Lib.decDigits N1).toArray⟩ : ByteArray).size ≤ 140737488355328 := by rw [hl4, hsz4]; omega
          have HS4 : Hid _ := hsz4
          have hB4 : w.heap.size ≤ x4.heap.size := by omega
          clear hsz4 hl4
          go_wp2_with (at_builtin; refine Lib.wpList_append_own_string _ rfl _ _ 34 9 rfl w.heap.size 5 i0 Tryd.underlying34 Tryd.underlying9 hinf hz0 hz1 hz2 (.slice (some ⟨g3, 0, none⟩) (l2.length + 1) cap3) (l2 ++ [58]).length (Lib.byteCells (l2 ++ [58])) rfl hbuf4 ⟨(Lib.decDigits N1).toArray⟩ rfl hm1 hm2 hB4 ?_)
          intro v5 x5 ho5 hg5 _
          have HB5 : Hid (Buf w.heap.size x5 v5 (L ++ A 2)) := by
            show Buf w.heap.size x5 v5 (L ++ A 2)
            rw [Lib.strCells_toArray] at ho5
            have := Buf.more (l := l2 ++ [58]) (m := Lib.decDigits N1) (by rw [List.length_append]; exact ho5)
            rw [HL2.out, HL0.out] at this
            rw [HA.out.2.2.1]
            simpa [ptext, List.append_assoc] using this
          have HQ5 : Hid _ := K38.grown hbuf4 hg5 _ _ _ HQ4.out
          have HBL5 : Hid _ := HBL4.out.grown hg5 (by omega) hvb
          clear ho5 hg5 hbuf4 HQ4 HBL4 hvb hm1 hm2
          go_wp2
          go_roundw
          case rel => exact ⟨2, by omega, rfl, HB5.out, HQ5.out, HBL5.out⟩
          case measure => simp [intOf]
        | 2, _ =>
          have hbn := HBN.out.2.2.2.1
          have hwl := wtext_len S3.data.toList
          rw [← size_data] at hwl
          obtain ⟨l0, hl0⟩ : ∃ l, l = L ++ A 2 := ⟨_, rfl⟩
          rw [← hl0] at hbuf
          have hll : l0.length = L.length + (A 2).length := by rw [hl0, List.length_append]
          rw [← hll] at hbn
          have HL0 : Hid (l0 = L ++ A 2) := hl0
          clear hl0 hll
          go_wp2_with (at_builtin; refine wpList_append_lies _ rfl _ _ 34 rfl w.heap.size 5 i0 _ 1 1 Tryd.underlying34 hinf hz0 hz1 hz2 rfl (by omega) u3 l0.length (Lib.byteCells l0) rfl (hbuf.alloc _) ⟨wr.heap.size, 0, none⟩ 1 1 [.int .u8 32] rfl rfl (World.news_of_block (cs := #[.int .u8 32]) (t := 5) (fr := (0, 0)) (heap_alloc_new wr _)) (by simp [Value.oneCell']) (by omega) (by unfold maxLen; omega) (by omega) (by simp; omega) (wr.heap.size + 1) (by simp) ?_)
          intro g1 cap1 x1 ho1 hg1 _ _
          obtain ⟨hbuf1, hb1, hk1⟩ := buf_byte (c := 32) ho1 hbuf _ hg1 hsx
          have hs1 := hb1.size
          clear ho1 hg1 hbuf
          have hl1 : (l0 ++ [32]).length = l0.length + 1 := by simp
          have haw := appendWord_any w.heap.size _ (l0 ++ [32]) S3 x1 hbuf1 (by omega) (by rw [hl1]; omega)
          have HQ1 : Hid _ := hk1 _ _ _ hqb
          have HBL1 : Hid _ := hbl.trans hb1
          clear hbuf1 hb1 hk1 hl1 hqb hbl
          go_wp2_with fail
          refine haw.mono ?_
          rintro e x2 ⟨v2, rfl, hbuf2, hb2, hk2⟩
          have hs2 := hb2.size
          obtain ⟨l2, hl2⟩ : ∃ l, l = l0 ++ [32] ++ wtext S3.data.toList := ⟨_, rfl⟩
          rw [← hl2] at hbuf2
          have hll2 : l0.length + 1 + (wtext S3.data.toList).length = l2.length := by rw [hl2]; simp; omega
          have HL2 : Hid (l2 = l0 ++ [32] ++ wtext S3.data.toList) := hl2
          have HQ2 : Hid _ := hk2 _ _ _ HQ1.out
          have HBL2 : Hid _ := HBL1.out.trans hb2
          clear haw hl2 hb2 hk2 HQ1 HBL1
          go_wp2_with (at_builtin; refine wpList_append_lies _ rfl _ _ 34 rfl w.heap.size 5 i0 _ 1 1 Tryd.underlying34 hinf hz0 hz1 hz2 rfl (by omega) v2 l2.length (Lib.byteCells l2) rfl (hbuf2.alloc _) ⟨x2.heap.size, 0, none⟩ 1 1 [.int .u8 58] rfl rfl (World.news_of_block (cs := #[.int .u8 58]) (t := 5) (fr := (0, 0)) (heap_alloc_new x2 _)) (by simp [Value.oneCell']) (by omega) (by unfold maxLen; omega) (by omega) (by simp; omega) (x2.heap.size + 1) (by simp) ?_)
          intro g3 cap3 x3 ho3 hg3 _ _
          obtain ⟨hbuf3, hb3, hk3⟩ := buf_byte (c := 58) ho3 hbuf2 _ hg3 (by omega)
          have hs3 := hb3.size
          have hqb3 := hk3 _ _ _ HQ2.out
          have hbl3 := HBL2.out.trans hb3
          have cn : x3.cell? ⟨H, 7, none⟩ = some (.int .i64 (N2 : Int)) := blk_cell hqb3 7 _ rfl
          have hnn := HW4.out.2.2.1
          have hit := strconvItoa (N2 : Int) (by omega) (by omega) x3 (HT.out.on hbl3).here
          rw [Lib.itoa_nonneg] at hit
          have HQ3 : Hid _ := hqb3
          have HBL3 : Hid _ := hbl3
          clear ho3 hg3 hbuf2 hb3 hk3 hqb3 hbl3 HQ2 HBL2
          go_wp2_with fail
          refine hit.mono ?_
          rintro e x4 ⟨rfl, kk, os, hx4⟩
          have hgr := grow_grown x3 kk os
          rw [← hx4] at hgr
          have hbuf4 : Buf w.heap.size x4 (.slice (some ⟨g3, 0, none⟩) (l2.length + 1) cap3) (l2 ++ [58]) := hbuf3.kept hgr (Or.inr (by simp [Value.ownBlock]))
          have hb4 : Below w.heap.size x3 x4 := (Below.refl _ _).grown hgr (by omega) (fun k hk => by cases hk)
          have hs4 := hb4.size
          have HQ4 : Hid _ := K38.none hgr _ _ _ HQ3.out
          have HBL4 : Hid _ := HBL3.out.trans hb4
          have hl4 : (l2 ++ [58]).length = l2.length + 1 := by simp
          have hsz4 : (⟨(Lib.decDigits N2).toArray⟩ : ByteArray).size = (Lib.decDigits N2).length := rfl
          have hvb := fun k h => (hbuf4.lt k h).1
          clear hit hx4 hgr hbuf3 hb4 HQ3 HBL3 cn
          have hm1 : (l2 ++ [58]).length + (⟨(Lib.decDigits N2).toArray⟩ : ByteArray).size ≤ maxLen := by rw [hl4, hsz4]; unfold maxLen; omega
          have hm2 : (l2 ++ [58]).length + (⟨(Lib.decDigits N2).toArray⟩ : ByteArray).size ≤ 140737488355328 := by rw [hl4, hsz4]; omega
          have HS4 : Hid _ := hsz4
          have hB4 : w.heap.size ≤ x4.heap.size := by omega
          clear hsz4 hl4
          go_wp2_with (at_builtin; refine Lib.wpList_append_own_string _ rfl _ _ 34 9 rfl w.heap.size 5 i0 Tryd.underlying34 Tryd.underlying9 hinf hz0 hz1 hz2 (.slice (some ⟨g3, 0, none⟩) (l2.length + 1) cap3) (l2 ++ [58]).length (Lib.byteCells (l2 ++ [58])) rfl hbuf4 ⟨(Lib.decDigits N2).toArray⟩ rfl hm1 hm2 hB4 ?_)
          intro v5 x5 ho5 hg5 _
          have HB5 : Hid (Buf w.heap.size x5 v5 (L ++ A 3)) := by
            show Buf w.heap.size x5 v5 (L ++ A 3)
            rw [Lib.strCells_toArray] at ho5
            have := Buf.more (l := l2 ++ [58]) (m := Lib.decDigits N2) (by rw [List.length_append]; exact ho5)
            rw [HL2.out, HL0.out] at this
            rw [HA.out.2.2.2.1]
            simpa [ptext, List.append_assoc] using this
          have HQ5 : Hid _ := K38.grown hbuf4 hg5 _ _ _ HQ4.out
          have HBL5 : Hid _ := HBL4.out.grown hg5 (by omega) hvb
          clear ho5 hg5 hbuf4 HQ4 HBL4 hvb hm1 hm2
          go_wp2
          go_roundw
          case rel => exact ⟨3, by omega, rfl, HB5.out, HQ5.out, HBL5.out⟩
          case measure => simp [intOf]
        | 3, _ =>
          have hbn := HBN.out.2.2.2.2
          have hwl := wtext_len S4.data.toList
          rw [← size_data] at hwl
          obtain ⟨l0, hl0⟩ : ∃ l, l = L ++ A 3 := ⟨_, rfl⟩
          rw [← hl0] at hbuf
          have hll : l0.length = L.length + (A 3).length := by rw [hl0, List.length_append]
          rw [← hll] at hbn
          have HL0 : Hid (l0 = L ++ A 3) := hl0
          clear hl0 hll
          go_wp2_with (at_builtin; refine wpList_append_lies _ rfl _ _ 34 rfl w.heap.size 5 i0 _ 1 1 Tryd.underlying34 hinf hz0 hz1 hz2 rfl (by omega) u3 l0.length (Lib.byteCells l0) rfl (hbuf.alloc _) ⟨wr.heap.size, 0, none⟩ 1 1 [.int .u8 32] rfl rfl (World.news_of_block (cs := #[.int .u8 32]) (t := 5) (fr := (0, 0)) (heap_alloc_new wr _)) (by simp [Value.oneCell']) (by omega) (by unfold maxLen; omega) (by omega) (by simp; omega) (wr.heap.size + 1) (by simp) ?_)
          intro g1 cap1 x1 ho1 hg1 _ _
          obtain ⟨hbuf1, hb1, hk1⟩ := buf_byte (c := 32) ho1 hbuf _ hg1 hsx
          have hs1 := hb1.size
          clear ho1 hg1 hbuf
          have hl1 : (l0 ++ [32]).length = l0.length + 1 := by simp
          have haw := appendWord_any w.heap.size _ (l0 ++ [32]) S4 x1 hbuf1 (by omega) (by rw [hl1]; omega)
          have HQ1 : Hid _ := hk1 _ _ _ hqb
          have HBL1 : Hid _ := hbl.trans hb1
          clear hbuf1 hb1 hk1 hl1 hqb hbl
          go_wp2_with fail
          refine haw.mono ?_
          rintro e x2 ⟨v2, rfl, hbuf2, hb2, hk2⟩
          have hs2 := hb2.size
          obtain ⟨l2, hl2⟩ : ∃ l, l = l0 ++ [32] ++ wtext S4.data.toList := ⟨_, rfl⟩
          rw [← hl2] at hbuf2
          have hll2 : l0.length + 1 + (wtext S4.data.toList).length = l2.length := by rw [hl2]; simp; omega
          have HL2 : Hid (l2 = l0 ++ [32] ++ wtext S4.data.toList) := hl2
          have HQ2 : Hid _ := hk2 _ _ _ HQ1.out
          have HBL2 : Hid _ := HBL1.out.trans hb2
          clear haw hl2 hb2 hk2 HQ1 HBL1
          go_wp2_with (at_builtin; refine wpList_append_lies _ rfl _ _ 34 rfl w.heap.size 5 i0 _ 1 1 Tryd.underlying34 hinf hz0 hz1 hz2 rfl (by omega) v2 l2.length (Lib.byteCells l2) rfl (hbuf2.alloc _) ⟨x2.heap.size, 0, none⟩ 1 1 [.int .u8 58] rfl rfl (World.news_of_block (cs := #[.int .u8 58]) (t := 5) (fr := (0, 0)) (heap_alloc_new x2 _)) (by simp [Value.oneCell']) (by omega) (by unfold maxLen; omega) (by omega) (by simp; omega) (x2.heap.size + 1) (by simp) ?_)
          intro g3 cap3 x3 ho3 hg3 _ _
          obtain ⟨hbuf3, hb3, hk3⟩ := buf_byte (c := 58) ho3 hbuf2 _ hg3 (by omega)
          have hs3 := hb3.size
          have hqb3 := hk3 _ _ _ HQ2.out
          have hbl3 := HBL2.out.trans hb3
          have cn : x3.cell? ⟨H, 8, none⟩ = some (.int .i64 (N3 : Int)) := blk_cell hqb3 8 _ rfl
          have hnn := HW4.out.2.2.2
          have hit := strconvItoa (N3 : Int) (by omega) (by omega) x3 (HT.out.on hbl3).here
          rw [Lib.itoa_nonneg] at hit
          have HQ3 : Hid _ := hqb3
          have HBL3 : Hid _ := hbl3
          clear ho3 hg3 hbuf2 hb3 hk3 hqb3 hbl3 HQ2 HBL2
          go_wp2_with fail
          refine hit.mono ?_
          rintro e x4 ⟨rfl, kk, os, hx4⟩
          have hgr := grow_grown x3 kk os
          rw [← hx4] at hgr
          have hbuf4 : Buf w.heap.size x4 (.slice (some ⟨g3, 0, none⟩) (l2.length + 1) cap3) (l2 ++ [58]) := hbuf3.kept hgr (Or.inr (by simp [Value.ownBlock]))
          have hb4 : Below w.heap.size x3 x4 := (Below.refl _ _).grown hgr (by omega) (fun k hk => by cases hk)
          have hs4 := hb4.size
          have HQ4 : Hid _ := K38.none hgr _ _ _ HQ3.out
          have HBL4 : Hid _ := HBL3.out.trans hb4
          have hl4 : (l2 ++ [58]).length = l2.length + 1 := by simp
          have hsz4 : (⟨(Lib.decDigits N3).toArray⟩ : ByteArray).size = (Lib.decDigits N3).length := rfl
          have hvb := fun k h => (hbuf4.lt k h).1
          clear hit hx4 hgr hbuf3 hb4 HQ3 HBL3 cn
          have hm1 : (l2 ++ [58]).length + (⟨(Lib.decDigits N3).toArray⟩ : ByteArray).size ≤ maxLen := by rw [hl4, hsz4]; unfold maxLen; omega
          have hm2 : (l2 ++ [58]).length + (⟨(Lib.decDigits N3).toArray⟩ : ByteArray).size ≤ 140737488355328 := by rw [hl4, hsz4]; omega
          have HS4 : Hid _ := hsz4
          have hB4 : w.heap.size ≤ x4.heap.size := by omega
          clear hsz4 hl4
          go_wp2_with (at_builtin; refine Lib.wpList_append_own_string _ rfl _ _ 34 9 rfl w.heap.size 5 i0 Tryd.underlying34 Tryd.underlying9 hinf hz0 hz1 hz2 (.slice (some ⟨g3, 0, none⟩) (l2.length + 1) cap3) (l2 ++ [58]).length (Lib.byteCells (l2 ++ [58])) rfl hbuf4 ⟨(Lib.decDigits N3).toArray⟩ rfl hm1 hm2 hB4 ?_)
          intro v5 x5 ho5 hg5 _
          have HB5 : Hid (Buf w.heap.size x5 v5 (L ++ A 4)) := by
            show Buf w.heap.size x5 v5 (L ++ A 4)
            rw [Lib.strCells_toArray] at ho5
            have := Buf.more (l := l2 ++ [58]) (m := Lib.decDigits N3) (by rw [List.length_append]; exact ho5)
            rw [HL2.out, HL0.out] at this
            rw [HA.out.2.2.2.2]
            simpa [ptext, List.append_assoc] using this
          have HQ5 : Hid _ := K38.grown hbuf4 hg5 _ _ _ HQ4.out
          have HBL5 : Hid _ := HBL4.out.grown hg5 (by omega) hvb
          clear ho5 hg5 hbuf4 HQ4 HBL4 hvb hm1 hm2
          go_wp2
          go_roundw
          case rel => exact ⟨4, by omega, rfl, HB5.out, HQ5.out, HBL5.out⟩
          case measure => simp [intOf]
        | 4, _ =>
          have hlen := HLEN.out
          obtain ⟨l0, hl0⟩ : ∃ l, l = L ++ A 4 := ⟨_, rfl⟩
          rw [← hl0] at hbuf
          have hll : l0.length = L.length + (A 4).length := by rw [hl0, List.length_append]
          rw [← hll] at hlen
          have HL0 : Hid (l0 = L ++ A 4) := hl0
          clear hl0 hll
          go_wp2_with (at_builtin; refine wpList_append_lies _ rfl _ _ 34 rfl w.heap.size 5 i0 _ 1 1 Tryd.underlying34 hinf hz0 hz1 hz2 rfl (by omega) u3 l0.length (Lib.byteCells l0) rfl (hbuf.alloc _) ⟨wr.heap.size, 0, none⟩ 1 1 [.int .u8 10] rfl rfl (World.news_of_block (cs := #[.int .u8 10]) (t := 5) (fr := (0, 0)) (heap_alloc_new wr _)) (by simp [Value.oneCell']) (by omega) (by unfold maxLen; omega) (by omega) (by simp; omega) (wr.heap.size + 1) (by simp) ?_)
          intro g1 cap1 x1 ho1 hg1 _ _
          obtain ⟨hbuf1, hb1, -⟩ := buf_byte (c := 10) ho1 hbuf _ hg1 hsx
          have HB5 : Hid (Buf w.heap.size x1 (.slice (some ⟨g1, 0, none⟩) (l0.length + 1) cap1) (textM (sts.take (i + 1)))) := by
            show Buf w.heap.size x1 _ (textM (sts.take (i + 1)))
            rw [HEND.out, ← HL0.out]
            exact hbuf1
          have HBL5 : Hid _ := hbl.trans hb1
          clear ho1 hg1 hbuf1 hb1 hbuf hqb hbl
          go_wp2
          go_roundw
          case rel => exact ⟨i + 1, by omega, by go_num, HB5.out, HBL5.out⟩
          case measure => simp [intOf]; omega
    · obtain rfl : i = n := by omega
      have HTE : Hid (textM (sts.take i) = textM sts) := by
        show textM (sts.take i) = textM sts
        rw [HN.out, List.take_length]
      rw [HTE.out] at hbuf
      have hpos : 0 < (textM sts).length := by
        obtain ⟨q, hq⟩ : ∃ q, sts[0]? = some q := ⟨sts[0]'(by have := HN.out; omega), List.getElem?_eq_getElem _⟩
        have := (textM_at sts 0 q hq).2
        have h2 : 0 < (lineText q).length := by unfold lineText; simp
        omega
      obtain ⟨T, hT⟩ : ∃ T, T = textM sts := ⟨_, rfl⟩
      rw [← hT] at hbuf hpos
      have HTT : Hid (T = textM sts) := hT
      clear hT
      rcases hbuf.2 with ⟨-, h00⟩ | ⟨gg, cc, cur, rfl, -, -, -, -, -, -⟩
      · omega
      · have hcv := run_convert_bytes_back (P := Tryd.prog) wr 34 9 5 ⟨gg, 0, none⟩ cc T Tryd.underlying34 Tryd.underlying5 Tryd.underlying9 (fun j hj => hbuf.cells (g := gg) rfl j _ (by simp [Lib.byteCells, hj]))
        go_wp2
        go_ret
        exact ⟨by rw [← HTT.out]; rfl, hb⟩
end Go.Proofs.YtmbapmbpnnaanabDoor
