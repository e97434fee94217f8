import Derived.Test.YtmbapmbpnnaanabDoorK
import Derived.Deep.OwnRows
namespace Go.Proofs.YtmbapmbpnnaanabDoor
open Go.RowKit

theorem Tryd.info3 : (Tryd.prog.info? 3).map (fun i => (i.zero, i.size, i.bytes)) = some (some (.int .i64 0), 1, 8) := by kernel_rfl

theorem made_icells (n : Nat) : madeCells #[.int .i64 0] n = icells (List.replicate n 0) := by
  apply Array.ext'
  simp [madeCells, icells, Nat.mod_one]
  exact List.eq_replicate_iff.2 ⟨by simp, fun b hb => by obtain ⟨_, _, rfl⟩ := List.mem_map.1 hb; rfl⟩
theorem make_ints (n : Nat) (hn : n ≤ 200) (w : World) : (Instr.makeSlice 51 (.int .i64 (n : Int)) (.int .i64 (n : Int))).run Tryd.prog w = .ok (.slice (some ⟨w.heap.size, 0, none⟩) n n) (w.alloc (.cells (icells (List.replicate n 0)) 3)) := by
  rw [← made_icells]
  exact run_make_row' 51 3 (.int .i64 0) 8 Tryd.underlying51 Tryd.info3 rfl .i64 .i64 n (by omega) (by omega) w

def bOf : Value → Nat
  | .bool true => 1
  | _ => 0

theorem good_start (sts : List St) : Good sts (List.replicate sts.length 0) :=
  ⟨by simp, fun x hx => by rw [(List.mem_replicate.1 hx).2]; omega, fun k q _ => by
    have e : (List.replicate sts.length 0).getD k 0 = 0 := by
      rw [List.getD_eq_getElem?_getD, List.getElem?_replicate]; split <;> rfl
    rw [e]; exact Sub.zero _⟩

/-- All numbers of next states are there. -/
def Within (sts : List St) : Prop := ∀ q ∈ sts, ∀ t ∈ q.nexts, t < sts.length

set_option maxHeartbeats 2000000 in
set_option maxRecDepth 100000 in
theorem beginnings_any (v : Value) (sts : List St) (w : World) (hst : Sts w v sts) (h0 : 0 < sts.length) (hl : sts.length ≤ 200) (hin : Within sts) :
    Calls Tryd.prog 22 #[v] w fun e w' => ∃ sets v', e = .returned v' ∧ Ints w' v' sets ∧ Good sts sets ∧ Fixed sts sets ∧ Below w.heap.size w w' := by
  obtain ⟨g, cap, rfl, hg, hcap⟩ := hst.form h0
  have hgs := good_start sts
  obtain ⟨n, hn⟩ : ∃ n, n = sts.length := ⟨_, rfl⟩
  rw [← hn] at h0 hl hcap hst hgs ⊢
  have HN : Hid (n = sts.length) := hn
  have HG0 : Hid (Good sts (List.replicate n 0)) := hgs
  have HIN : Hid (Within sts) := hin
  have hmk := make_ints n hl
  clear hn hgs hin
  go_enter Tryd.func22, Tryd.ntmps22
  go_wp2
  clear hmk
  go_loopw [4] (fun gb wr => ∃ (sets : List Nat) (b : Bool), gb = .bool b ∧ Good sts sets ∧ (b = false → Fixed sts sets) ∧ wr.heap[w.heap.size]? = some (.cells (icells sets) 3 (0, 0)) ∧ Below w.heap.size w wr)
    (fun gb wr => 2 * slack (setsOf wr w.heap.size) + bOf gb)
  case atStart => exact ⟨_, true, rfl, HG0.out, (fun h => by cases h), heap_alloc_new w _, (Below.refl _ _).alloc (Nat.le_refl _) _⟩
  case round =>
    obtain ⟨sets, b, rfl, hgood, hfix, hblk, hb⟩ := hrel
    have hszr : w.heap.size < wr.heap.size := (Array.getElem?_eq_some_iff.1 hblk).1
    cases b with
    | false =>
      have HB : Hid (wr.heap[w.heap.size]? = some (.cells (icells sets) 3 (0, 0))) := hblk
      have HF : Hid (Fixed sts sets) := hfix rfl
      clear hblk hfix
      go_wp2
      go_ret
      have hlen := hgood.len
      rw [← HN.out] at hlen
      refine ⟨sets, _, rfl, ?_, hgood, HF.out, hb⟩
      have := Ints.of_block HB.out (by omega)
      rw [hlen] at this
      exact this
    | true =>
      have HB : Hid (wr.heap[w.heap.size]? = some (.cells (icells sets) 3 (0, 0))) := hblk
      have HGd : Hid (Good sts sets) := hgood
      clear hblk hgood hfix
      go_wp2
      go_loopw [4, 14] (fun gb ii wx => ∃ (s2 : List Nat) (b : Bool) (i : Nat), i ≤ n ∧ ii = .int .i64 (i : Int) ∧ gb = .bool b ∧ Good sts s2 ∧ wx.heap[w.heap.size]? = some (.cells (icells s2) 3 (0, 0)) ∧ Below w.heap.size w wx ∧
          (b = true → slack s2 < slack sets) ∧ (b = false → s2 = sets ∧ ∀ (k : Nat) (q : St), k < i → sts[k]? = some q → s2[k]? = some (bgOf q s2))) (fun _ ii _ => n - (intOf ii).toNat)
      case atStart => exact ⟨sets, false, 0, by omega, rfl, rfl, HGd.out, HB.out, hb, (fun h => by cases h), fun _ => ⟨rfl, fun k q h => by omega⟩⟩
      case round =>
        obtain ⟨s2, b, i, hi, rfl, rfl, hgood, hblk, hb2, ht, hf⟩ := hrel
        have hsz2 : w.heap.size < wr.heap.size := (Array.getElem?_eq_some_iff.1 hblk).1
        have hlen : s2.length = n := by rw [HN.out]; exact hgood.len
        have HG2 : Hid (Good sts s2) := hgood
        have HT : Hid (b = true → slack s2 < slack sets) := ht
        have HF : Hid (b = false → s2 = sets ∧ ∀ (k : Nat) (q : St), k < i → sts[k]? = some q → s2[k]? = some (bgOf q s2)) := hf
        have HB2 : Hid (wr.heap[w.heap.size]? = some (.cells (icells s2) 3 (0, 0))) := hblk
        clear hgood ht hf hblk
        by_cases hlt : i < n
        · obtain ⟨q, hq⟩ : ∃ q, sts[i]? = some q := ⟨sts[i]'(by have := HN.out; omega), List.getElem?_eq_getElem _⟩
          obtain ⟨S0, S1, S2, S3, S4, N0, N1, N2, N3, hS, a0, a1, a2, a3, a4, a5, a6, a7, a8⟩ := (hst.below hb2 (Nat.le_refl _)).nine i q hq
          have hbg : bgA S0 S1 S2 S3 S4 N0 N1 N2 N3 s2 4 = bgOf q s2 := by
            obtain ⟨e1, e2, e3⟩ := hS
            simp only [St.saids, St.nexts, List.map_cons, List.map_nil, List.cons.injEq, and_true] at e2 e3
            obtain ⟨f1, f2, f3, f4⟩ := e2
            obtain ⟨g1, g2, g3, g4⟩ := e3
            rw [e1, f1, f2, f3, f4, g1, g2, g3, g4]
            rfl
          have hw4 : N0 < s2.length ∧ N1 < s2.length ∧ N2 < s2.length ∧ N3 < s2.length := by
            have hm := HIN.out q (List.mem_of_getElem? hq)
            rw [← hS.2.2, ← HN.out, ← hlen] at hm
            exact ⟨hm _ (by simp), hm _ (by simp), hm _ (by simp), hm _ (by simp)⟩
          obtain ⟨x, hx⟩ : ∃ x, s2[i]? = some x := ⟨s2[i]'(by omega), List.getElem?_eq_getElem _⟩
          have hbelow : ∀ o, Below w.heap.size w (wr.alloc o) := fun o => hb2.alloc (by omega) o
          have hints : ∀ o, Ints (wr.alloc o) (.slice (some ⟨w.heap.size, 0, none⟩) n n) s2 := fun o => by
            have := Ints.of_block (w := wr.alloc o) (g := w.heap.size) (xs := s2) (by rw [Below.heap_alloc _ _ _ (by omega)]; exact HB2.out) (by omega)
            rw [hlen] at this
            exact this
          have HQ : Hid (sts[i]? = some q) := hq
          have HX : Hid (s2[i]? = some x) := hx
          have HBG : Hid (bgA S0 S1 S2 S3 S4 N0 N1 N2 N3 s2 4 = bgOf q s2) := hbg
          have hcall := fun o => beginningsOf_any S0 S1 S2 S3 S4 N0 N1 N2 N3 _ s2 (wr.alloc o) (hints o) HG2.out.lt hw4.1 hw4.2.1 hw4.2.2.1 hw4.2.2.2 (by omega)
          simp only [hbg] at hcall
          have HCALL : Hid _ := hcall
          have HBL : Hid _ := hbelow
          clear hS hbg hw4 hq hx hbelow hints hcall
          go_wp2_with (go_at_call 32; refine (HCALL.out _).mono ?_; rintro e w1 ⟨rfl, hb3⟩; refine Hid.out ?_)
          refine Lib.hid ?_
          have hblk3 : w1.heap[w.heap.size]? = some (.cells (icells s2) 3 (0, 0)) := by
            rw [hb3.block w.heap.size (by simp; omega), Below.heap_alloc _ _ _ (by omega)]
            exact HB2.out
          have hb4 : Below w.heap.size w w1 := (HBL.out _).trans (hb3.mono (by simp; omega))
          have cx := blk_cell hblk3 i _ (icells_get s2 i x HX.out)
          have fx := blk_free hblk3 i
          have HB3 : Hid (w1.heap[w.heap.size]? = some (.cells (icells s2) 3 (0, 0))) := hblk3
          clear hblk3 HCALL HBL hb3 a0 a1 a2 a3 a4 a5 a6 a7 a8
          obtain ⟨y, hy⟩ : ∃ y, y = bgOf q s2 := ⟨_, rfl⟩
          rw [← hy]
          have HY : Hid (y = bgOf q s2) := hy
          clear hy
          by_cases hne : y = x
          · have hnei : ((y : Int) != (x : Int)) = false := by simp [hne]
            have HNE : Hid (y = x) := hne
            clear hne
            go_wp2
            go_roundw
            case rel =>
              refine ⟨s2, b, i + 1, by omega, by go_num, rfl, HG2.out, HB3.out, hb4, HT.out, fun h => ⟨(HF.out h).1, fun k p hk hp => ?_⟩⟩
              rcases Nat.lt_or_ge k i with h2 | h2
              · exact (HF.out h).2 k p h2 hp
              · obtain rfl : k = i := by omega
                have e2 : p = q := Option.some.inj (hp.symm.trans HQ.out)
                rw [e2, HX.out, ← HNE.out, HY.out]
            case measure => simp [intOf]; omega
          · have hnei : ((y : Int) != (x : Int)) = true := by
              simp only [bne_iff_ne, ne_eq]
              omega
            have hgs := HG2.out.step HQ.out HX.out (by rw [← HY.out]; exact hne)
            rw [← HY.out] at hgs
            have HGS : Hid _ := hgs
            clear hgs hne
            go_wp2
            go_roundw
            case rel =>
              refine ⟨s2.set i y, true, i + 1, by omega, by go_num, rfl, HGS.out.1, ?_, hb4.setCell (by simp) _, fun _ => ?_, fun h => by cases h⟩
              · rw [← icells_set]; exact blk_set HB3.out _ _
              · have h1 := HGS.out.2
                cases b with
                | true => have := HT.out rfl; omega
                | false => rw [← (HF.out rfl).1]; exact h1
            case measure => simp [intOf]; omega
        · have hin : i = n := by omega
          have HE : Hid (b = false → Fixed sts s2) := fun h k q hq => (HF.out h).2 k q (by
            have := HN.out
            rcases Nat.lt_or_ge k sts.length with h2 | h2
            · omega
            · rw [List.getElem?_eq_none h2] at hq; cases hq) hq
          have HM : Hid (2 * slack s2 + bOf (.bool b) < 2 * slack sets + 1) := by
            show 2 * slack s2 + bOf (.bool b) < 2 * slack sets + 1
            cases b with
            | true => have := HT.out rfl; simp only [bOf]; omega
            | false => rw [(HF.out rfl).1]; simp only [bOf]; omega
          go_wp2
          go_roundw
          case rel => exact ⟨s2, b, rfl, HG2.out, HE.out, HB2.out, hb2⟩
          case measure =>
            rw [setsOf_at HB2.out, setsOf_at HB.out]
            exact HM.out
end Go.Proofs.YtmbapmbpnnaanabDoor
