import Derived.Test.YtmbapmbpnnaanabGreatDoorMC
import Derived.Test.YtmbapmbpnnaanabGreatDoorMH
namespace Go.Proofs.YtmbapmbpnnaanabGreatDoor
open Go.RowKit
attribute [local go_sem ↓] Go.wp_at_zero Go.wp_at_succ

theorem runGo_step (v : M2.View) (c : UInt8) (cs : List UInt8) (k : Nat) (ks : List Nat) (acc : List UInt8) (tc : Nat) : M2.runGo v (c :: cs) (k :: ks) acc tc = M2.runGo v cs ks (acc ++ (M2.vstep v k tc (Mir.num c)).1) (M2.vstep v k tc (Mir.num c)).2 := rfl
theorem byteCells_app (a b : List UInt8) : Lib.byteCells a ++ Lib.byteCells b = Lib.byteCells (a ++ b) := by simp [Lib.byteCells]
theorem strCells_list (a : List UInt8) : Lib.strCells ⟨a.toArray⟩ = Lib.byteCells a := by rw [strCells_eq]

structure RI (w : World) (ka kw kh kd : Value) (v : M2.View) (u : Value) (ks : List Nat) (vs : Value) (acc : List UInt8) (wr : World) : Prop where
  box : Blk wr w.heap.size [ka, kw, kh, kd] 90
  kin : Row InE wr u ks
  own : wr.ownsRow w.heap.size 5 1 vs acc.length (Lib.byteCells acc)
  md : Mod No w wr
  fu : ∀ g, u.ownBlock = some g → w.heap.size ≤ g
theorem RI.no {w : World} {ka kw kh kd : Value} {v : M2.View} {u : Value} {ks : List Nat} {vs : Value} {acc : List UInt8} {wr wr' : World} (h : RI w ka kw kh kd v u ks vs acc wr) (hm : Mod No wr wr') : RI w ka kw kh kd v u ks vs acc wr' := by
  refine ⟨h.box.mod hm (fun x => x), h.kin.no hm, ?_, h.md.no hm, h.fu⟩
  exact World.ownsRow.kept h.own (row := none) ⟨hm.os, hm.tape, hm.output, hm.size, fun k hk _ => hm.block k hk (fun x => x)⟩ (by
    cases vs.ownBlock with
    | none => exact .inl rfl
    | some g => exact .inr (by simp))
theorem RI.app {w : World} {ka kw kh kd : Value} {v : M2.View} {u : Value} {ks : List Nat} {vs v2 : Value} {acc s : List UInt8} {wr wr' : World} (h : RI w ka kw kh kd v u ks vs acc wr) (ho : wr'.ownsRow w.heap.size 5 1 v2 (acc.length + s.length) (Lib.byteCells acc ++ Lib.byteCells s)) (hg : wr.grownBy wr' vs.ownBlock) : RI w ka kw kh kd v u ks v2 (acc ++ s) wr' := by
  have hrow : ∀ g, vs.ownBlock = some g → ∃ cs, wr.heap[g]? = some (.cells cs 5 (0, 0)) := fun g hg => by
    rcases h.own.2 with ⟨rfl, _⟩ | ⟨g1, cap, cur, rfl, _, hh, _⟩
    · cases hg
    · have : g1 = g := Option.some.inj hg
      subst this; exact ⟨cur, hh⟩
  refine ⟨h.box.grown hg (fun e => ?_), h.kin.grown hg ?_, ?_, h.md.grown hg (fun g e hlt => ?_), h.fu⟩
  · obtain ⟨cs, hh⟩ := hrow _ e.symm
    have hb : wr.heap[w.heap.size]? = some (.cells #[ka, kw, kh, kd] 90 (0, 0)) := h.box
    rw [hb] at hh
    cases hh
  · cases e : u.ownBlock with
    | none => exact .inl rfl
    | some g =>
      refine .inr fun e2 => ?_
      obtain ⟨cs, hh⟩ := hrow g e2.symm
      rcases h.kin.2 with ⟨rfl, _⟩ | ⟨g1, cap, cur, rfl, _, hh2, _⟩
      · cases e
      · have : g1 = g := Option.some.inj e
        subst this
        rw [hh] at hh2
        cases hh2
  · rw [List.length_append, ← byteCells_app]; exact ho
  · have := (World.ownsRow.lt h.own g e).1
    omega

set_option maxHeartbeats 4000000 in
set_option maxRecDepth 100000 in
theorem vrun_any (w : World) (ka kw kh kd : Value) (v : M2.View) (hv : VOk v) (s : ByteArray) (b0 tc : Nat) (h2 : IsSl kw) (h3 : IsSl kh) (ha : Row R4E w ka v.k.ahead) (hd : Row DeE w kd v.deeds) (hs : s.size ≤ 100000) (hb : b0 < v.k.ahead.length) (htc : tc ≤ 4) {r : List UInt8 × Nat} (hM : M2.vrun v s.data.toList b0 tc = some r) :
    Calls Tryz.prog 127 #[.agg #[ka, kw, kh, kd], .string s, .int .i64 (b0 : Int), .int .i64 (tc : Int)] w fun e w' => e = .returned (.tuple #[.string ⟨r.1.toArray⟩, .int .i64 (r.2 : Int)]) ∧ Mod No w w' := by
  unfold M2.vrun at hM
  rw [if_neg (by omega)] at hM
  split at hM
  · cases hM
  · rename_i ks kb hal
    have hr : M2.runGo v s.data.toList ks [] tc = r := Option.some.inj hM
    have HAL : Hid (∀ wx, Mod No w wx → Calls Tryz.prog 146 #[.agg #[ka, kw, kh, kd], .string s, .int .i64 (b0 : Int)] wx fun e w' => Mod No wx w' ∧ ∃ u, e = .returned u ∧ Row InE w' u ks ∧ (∀ g, u.ownBlock = some g → wx.heap.size ≤ g)) := fun wx hm => along_any wx ka kw kh kd v s b0 h2 h3 hd.sl (ha.no hm) (by omega) hb hv.le hal
    have HLT : Hid (∀ k ∈ ks, k < v.k.ahead.length) := along_lt v hv _ _ _ hal
    have HLN : Hid (ks.length = s.size) := by
      show ks.length = s.size
      have := along_len v _ _ _ hal
      rw [this, data_len]
    have HST : Hid (∀ (wx : World) (k t l : Nat), Mod No w wx → k < v.deeds.length → t ≤ 4 → l < 4 → Calls Tryz.prog 130 #[.agg #[ka, kw, kh, kd], .int .i64 (k : Int), .int .i64 (t : Int), .int .i64 (l : Int)] wx fun e w' => e = .returned (.tuple #[.string ⟨(M2.vstep v k t l).1.toArray⟩, .int .i64 ((M2.vstep v k t l).2 : Int)]) ∧ Mod No wx w') := fun wx k t l hm hk ht hl => vstep_any wx ka kw kh kd v k t l ha.sl h2 h3 (hd.no hm) hl hk (by omega) (by have := hv.le; have := hv.len; omega) (fun d hd => by have := (hv.tak d hd).1; omega)
    have HNUM : Hid (∀ (c : UInt8) (w : World), Calls Tryz.prog 47 #[.int .u8 (c.toNat : Int)] w fun e w' => e = .returned (.int .i64 (Mir.num c : Int)) ∧ w' = w) := number_any
    have HG : Hid (∀ (i : Nat) (h : i < s.size), s.data.toList[i]? = some s[i]) := fun i h => Lib.data_getElem? s i h
    have HV : Hid (VOk v) := hv
    have HR : Hid (M2.runGo v s.data.toList ks [] tc = r) := hr
    obtain ⟨a2, n2, c2, rfl⟩ := h2
    obtain ⟨a3, n3, c3, rfl⟩ := h3
    obtain ⟨a1, n1, c1, hka⟩ := ha.sl
    obtain ⟨a4, n4, c4, hkd⟩ := hd.sl
    subst hka hkd
    have HSZ : Hid (s.data.toList.length = s.size) := data_len s
    obtain ⟨n, hn⟩ : ∃ n, n = s.size := ⟨_, rfl⟩
    rw [← hn] at HLN hs HSZ
    have HN : Hid (n = s.size) := hn
    clear hal hr hM ha hd hv hn
    go_enter Tryz.func127, Tryz.ntmps127
    go_wp2_with fail
    refine (HAL.out _ ((Mod.refl _ _).alloc _)).mono ?_
    rintro e w1 ⟨m1, u, rfl, hu, fu⟩
    clear HAL
    obtain ⟨au, cu, huv, -, -⟩ := hu.open HLN.out
    have HI0 : Hid (RI w (.slice a1 n1 c1) (.slice a2 n2 c2) (.slice a3 n3 c3) (.slice a4 n4 c4) v u ks (.slice none 0 0) [] w1) := ⟨Blk.mod (heap_alloc_new w _) m1 (fun x => x), hu, World.ownsRow_nil _ _ _ _, ((Mod.refl _ _).alloc _).no m1, fun g hg => by have := fu g hg; simp at this; omega⟩
    have HU : Hid (u = .slice au n cu) := huv
    clear hu fu m1
    rw [huv]
    clear huv
    go_wp2_with fail
    go_loopg [3, 11, 23] n (fun gh v3 v11 v23 wr => ∃ (i t : Nat) (acc : List UInt8), i ≤ n ∧ gh = n - i ∧ v23 = .int .i64 (i : Int) ∧ v3 = .int .i64 (t : Int) ∧ t ≤ 4 ∧ acc.length ≤ 4 * i ∧ M2.runGo v (s.data.toList.drop i) (ks.drop i) acc t = r ∧ RI w (.slice a1 n1 c1) (.slice a2 n2 c2) (.slice a3 n3 c3) (.slice a4 n4 c4) v u ks v11 acc wr)
    case atStart => exact ⟨0, tc, [], by omega, by omega, rfl, rfl, htc, by simp, HR.out, HI0.out⟩
    case round =>
      obtain ⟨i, t, acc, hin, hgk, rfl, rfl, ht4, hac, hrun, hI⟩ := hrel
      have HI : Hid (RI w (.slice a1 n1 c1) (.slice a2 n2 c2) (.slice a3 n3 c3) (.slice a4 n4 c4) v u ks u11 acc wr) := hI
      clear HI0 HR
      by_cases hlt : i < n
      · obtain ⟨k, hk⟩ : ∃ k, ks[i]? = some k := ⟨ks[i]'(by have := HLN.out; omega), List.getElem?_eq_getElem _⟩
        have his : i < s.size := by have := HN.out; omega
        have hc := HG.out i his
        obtain ⟨gu, hgu⟩ : ∃ gu, au = some ⟨gu, 0, none⟩ := by
          obtain ⟨g2, c2, h2, -⟩ := hI.kin.form (by have := HLN.out; omega)
          rw [HU.out] at h2
          injection h2 with h2 _
          exact ⟨g2, h2⟩
        subst hgu
        have hku := hI.kin
        rw [HU.out] at hku
        have ck := InE.cell hku hk
        have hkl := HLT.out k (List.mem_of_getElem? hk)
        have hrun2 : M2.runGo v (s.data.toList.drop (i + 1)) (ks.drop (i + 1)) (acc ++ (M2.vstep v k t (Mir.num s[i])).1) (M2.vstep v k t (Mir.num s[i])).2 = r := by
          rw [← hrun, ← runGo_step]
          congr 1
          · obtain ⟨h1, h2⟩ := List.getElem?_eq_some_iff.1 hc
            rw [← h2, ← List.drop_eq_getElem_cons h1]
          · obtain ⟨h1, h2⟩ := List.getElem?_eq_some_iff.1 hk
            rw [← h2, ← List.drop_eq_getElem_cons h1]
        have hnl := num_lt s[i]
        have hcall := HNUM.out s[i]
        have hst := fun wx hm => HST.out wx k t (Mir.num s[i]) hm (by rw [HV.out.len]; exact hkl) ht4 hnl
        have hsm := vstep_small v HV.out k t (Mir.num s[i]) ht4
        generalize Mir.num s[i] = q at hcall hst hrun2 hsm
        obtain ⟨sd, hsd⟩ : ∃ sd, sd = (M2.vstep v k t q).1 := ⟨_, rfl⟩
        obtain ⟨t', ht'⟩ : ∃ t', t' = (M2.vstep v k t q).2 := ⟨_, rfl⟩
        rw [← hsd, ← ht'] at hrun2 hsm hst
        have HRUN : Hid (M2.runGo v (s.data.toList.drop (i + 1)) (ks.drop (i + 1)) (acc ++ sd) t' = r) := hrun2
        have HSTP : Hid (∀ wx, Mod No w wx → Calls Tryz.prog 130 #[.agg #[.slice a1 n1 c1, .slice a2 n2 c2, .slice a3 n3 c3, .slice a4 n4 c4], .int .i64 (k : Int), .int .i64 (t : Int), .int .i64 (q : Int)] wx fun e w' => e = .returned (.tuple #[.string ⟨sd.toArray⟩, .int .i64 (t' : Int)]) ∧ Mod No wx w') := hst
        have b0' := hI.box.cell 0 rfl
        have b1' := hI.box.cell 1 rfl
        have b2' := hI.box.cell 2 rfl
        have b3' := hI.box.cell 3 rfl
        have hini : (i : Int) < (n : Int) := by omega
        have hisz : (i : Int) < (s.size : Int) := by omega
        clear hI hrun hrun2 hst hc hk hku hkl hsd ht' HST
        go_wp2_with fail
        refine (hcall _).mono ?_
        rintro e w2 ⟨rfl, rfl⟩
        clear hcall
        go_wp2_with fail
        refine (HSTP.out _ HI.out.md).mono ?_
        rintro e w3 ⟨rfl, m3⟩
        have HI3 : Hid (RI w (.slice a1 n1 c1) (.slice a2 n2 c2) (.slice a3 n3 c3) (.slice a4 n4 c4) v u ks u11 acc w3) := HI.out.no m3
        clear HSTP HI m3 ck b0' b1' b2' b3'
        have hown := HI3.out.own
        obtain ⟨i0, hinf, hz0, hz1, hz2⟩ := info_parts Tryz.info5
        have hw3 : w.heap.size ≤ w3.heap.size := HI3.out.md.size
        have hsz : (⟨sd.toArray⟩ : ByteArray).size = sd.length := by show sd.toArray.size = _; simp
        go_wp2_with (at_builtin; refine Lib.wpList_append_own_string w3 rfl _ _ 104 9 rfl w.heap.size 5 i0 Tryz.underlying104 Tryz.underlying9 hinf hz0 hz1 hz2 _ acc.length (Lib.byteCells acc) rfl hown ⟨sd.toArray⟩ rfl (by rw [hsz]; unfold maxLen; omega) (by rw [hsz]; omega) hw3 ?_)
        intro v2 w4 hown4 hg4 hnil4
        rw [strCells_list] at hown4
        have HI4 : Hid (RI w (.slice a1 n1 c1) (.slice a2 n2 c2) (.slice a3 n3 c3) (.slice a4 n4 c4) v u ks v2 (acc ++ sd) w4) := HI3.out.app hown4 hg4
        clear hown hown4 hg4 hnil4 hinf hz0 hz1 hz2 HI3
        go_wp2
        go_roundg (n - (i + 1))
        case measure => omega
        case rel => exact ⟨i + 1, t', acc ++ sd, by omega, rfl, by go_num, rfl, hsm.2, by simp; omega, HRUN.out, HI4.out⟩
      · obtain rfl : i = n := by omega
        have e1 : s.data.toList.drop i = [] := List.drop_of_length_le (by have := HSZ.out; omega)
        have e2 : ks.drop i = [] := List.drop_of_length_le (by have := HLN.out; omega)
        rw [e1, e2, runGo_nil] at hrun
        have HRR : Hid (r = (acc, t)) := hrun.symm
        have hown := hI.own
        have HM : Hid (Mod No w wr) := hI.md
        rcases hown.2 with ⟨rfl, h0⟩ | ⟨g, cap, cur, rfl, -, -, -, -, -, -⟩
        · have hcv : ∀ wx, (convert 104 9 (.slice none 0 0)).run Tryz.prog wx = .ok (.string ⟨#[]⟩) wx := fun wx => by rw [run_convert_bytes_string wx 104 9 5 none 0 0 Tryz.underlying104 Tryz.underlying5 Tryz.underlying9]; rfl
          obtain rfl : acc = [] := List.eq_nil_of_length_eq_zero h0
          clear hI hown hrun
          go_wp2
          exact bodyPost_ret (v := .tuple #[.string ⟨#[]⟩, .int .i64 (t : Int)]) (by simp [results, Tryz.results127, go_sem]) rfl ⟨by rw [HRR.out], HM.out⟩
        · have hcv1 := run_convert_bytes_back (P := Tryz.prog) wr 104 9 5 ⟨g, 0, none⟩ cap acc Tryz.underlying104 Tryz.underlying5 Tryz.underlying9 (fun j hj => hown.cells (g := g) rfl j _ (by simp [Lib.byteCells, hj]))
          clear hI hown hrun
          go_wp2
          exact bodyPost_ret (v := .tuple #[.string ⟨acc.toArray⟩, .int .i64 (t : Int)]) (by simp [results, Tryz.results127, go_sem]) rfl ⟨by rw [HRR.out], HM.out⟩
end Go.Proofs.YtmbapmbpnnaanabGreatDoor
/- foresee.New: the mirror with its checks, and what the walk keeps. -/
namespace Go.Proofs.YtmbapmbpnnaanabGreatDoor.M3
open Go.Proofs.YtmbapmbpnnaanabGreatDoor.Mir (R4 Rule)
open Go.Proofs.YtmbapmbpnnaanabGreatDoor.M2

def smallA (b : Auto) : Bool := decide (b.nx.length ≤ 60) && decide (0 < b.nx.length) && b.nx.all fun r => decide (r.a ≤ 1000) && decide (r.b ≤ 1000) && decide (r.c ≤ 1000) && decide (r.d ≤ 1000)
def leasts : List Rule → Auto → List Nat → Option (Option (Auto × List Nat))
  | [], a, ss => some (some (a, ss))
  | r :: rs, a, ss => match leastM r with
    | none => none
    | some none => some none
    | some (some b) => if smallA b then leasts rs (addA a b) (ss ++ [a.nx.length]) else none
def vOkB (v : View) : Bool := decide (v.deeds.length = v.k.ahead.length) && decide (v.k.ahead.length ≤ 24) && decide (v.k.hits.length = v.k.ahead.length) && (v.k.ahead.all fun r => decide (r.a < v.k.ahead.length) && decide (r.b < v.k.ahead.length) && decide (r.c < v.k.ahead.length) && decide (r.d < v.k.ahead.length)) && v.deeds.all fun d => decide (d.1 ≤ 4) && decide (d.2.length ≤ 4)
def view (rs : List Rule) : Option (Option View) :=
  match leasts rs ⟨[], []⟩ [] with
  | none => none
  | some none => some none
  | some (some (a, ss)) => if 60 < a.nx.length then some none else
    if a.nx.isEmpty then none else
    if !(ss.all fun s => decide (s < 60)) then none else
    match kindsM a with
    | none => none
    | some none => some none
    | some (some k) => match deedsGo rs ss k k.ahead.length 0 with
      | none => none
      | some d => if vOkB ⟨k, d⟩ then some (some ⟨k, d⟩) else none
end Go.Proofs.YtmbapmbpnnaanabGreatDoor.M3
namespace Go.Proofs.YtmbapmbpnnaanabGreatDoor
open Go.RowKit

theorem smallA_of {b : M2.Auto} (h : M3.smallA b = true) : b.nx.length ≤ 60 ∧ 0 < b.nx.length ∧ ∀ r ∈ b.nx, ∀ l, l < 4 → r4g r l ≤ 300000 := by
  unfold M3.smallA at h
  simp only [Bool.and_eq_true, decide_eq_true_eq, List.all_eq_true] at h
  refine ⟨h.1.1, h.1.2, fun r hr l hl => ?_⟩
  obtain ⟨⟨⟨h1, h2⟩, h3⟩, h4⟩ := h.2 r hr
  match l, hl with
  | 0, _ => show r.a ≤ _; omega
  | 1, _ => show r.b ≤ _; omega
  | 2, _ => show r.c ≤ _; omega
  | 3, _ => show r.d ≤ _; omega
theorem vOk_of {v : M2.View} (h : M3.vOkB v = true) : VOk v ∧ v.k.ahead.length ≤ 24 ∧ v.k.hits.length = v.k.ahead.length := by
  unfold M3.vOkB at h
  simp only [Bool.and_eq_true, decide_eq_true_eq, List.all_eq_true] at h
  obtain ⟨⟨⟨⟨h1, h2⟩, h3⟩, h4⟩, h5⟩ := h
  refine ⟨⟨h1, by omega, fun row hr l k hg => ?_, h5⟩, h2, h3⟩
  obtain ⟨⟨⟨e1, e2⟩, e3⟩, e4⟩ := h4 row hr
  match l, hg with
  | 0, hg => have : row.a = k := Option.some.inj hg; omega
  | 1, hg => have : row.b = k := Option.some.inj hg; omega
  | 2, hg => have : row.c = k := Option.some.inj hg; omega
  | 3, hg => have : row.d = k := Option.some.inj hg; omega
theorem leasts_step {rs : List Mir.Rule} {i : Nat} {r : Mir.Rule} {a : M2.Auto} {ss : List Nat} {res : Option (M2.Auto × List Nat)} (hr : rs[i]? = some r) (h : M3.leasts (rs.drop i) a ss = some res) :
    (M2.leastM r = some none ∧ res = none) ∨ ∃ b, M2.leastM r = some (some b) ∧ M3.smallA b = true ∧ M3.leasts (rs.drop (i + 1)) (M2.addA a b) (ss ++ [a.nx.length]) = some res := by
  obtain ⟨h1, h2⟩ := List.getElem?_eq_some_iff.1 hr
  rw [List.drop_eq_getElem_cons h1, h2, M3.leasts] at h
  split at h
  · cases h
  · rename_i hn
    exact Or.inl ⟨hn, (Option.some.inj h).symm⟩
  · rename_i b hb
    split at h
    · rename_i hs
      exact Or.inr ⟨b, hb, hs, h⟩
    · cases h
theorem deeds_len (rs : List Mir.Rule) (ss : List Nat) (k : M2.Kinds) : ∀ (n i : Nat) (d : List (Nat × List UInt8)), M2.deedsGo rs ss k n i = some d → d.length = n
  | 0, i, d, h => by rw [M2.deedsGo] at h; cases h; rfl
  | n + 1, i, d, h => by
    rw [M2.deedsGo] at h
    split at h
    · cases h
    · cases hq : M2.deedsGo rs ss k n (i + 1) with
      | none => rw [hq] at h; cases h
      | some x => rw [hq] at h; cases h; simp [deeds_len rs ss k n (i + 1) x hq]
theorem deeds_get (rs : List Mir.Rule) (ss : List Nat) (k : M2.Kinds) : ∀ (n i : Nat) (d : List (Nat × List UInt8)) (j : Nat), M2.deedsGo rs ss k n i = some d → j < n → ∃ x, d[j]? = some x ∧ M2.chooseGo k (i + j) rs ss (0, []) = some x
  | 0, i, d, j, h, hj => by omega
  | n + 1, i, d, j, h, hj => by
    rw [M2.deedsGo] at h
    split at h
    · cases h
    · rename_i x hx
      cases hq : M2.deedsGo rs ss k n (i + 1) with
      | none => rw [hq] at h; cases h
      | some y =>
        rw [hq] at h; cases h
        cases j with
        | zero => exact ⟨x, rfl, by simpa using hx⟩
        | succ j =>
          obtain ⟨z, h1, h2⟩ := deeds_get rs ss k n (i + 1) y j hq (by omega)
          exact ⟨z, by simpa using h1, by rw [show i + (j + 1) = i + 1 + j by omega]; exact h2⟩

/-- What New gives. -/
structure VP (v : M2.View) (base : Nat) (ka kw kh kd : Value) (w' : World) : Prop where
  ok : VOk v
  kok : KOk v.k
  n24 : v.k.ahead.length ≤ 24
  nh : v.k.hits.length = v.k.ahead.length
  ah : Row R4E w' ka v.k.ahead
  wo : Row StE w' kw v.k.words
  hi : Row HiE w' kh v.k.hits
  de : Row DeE w' kd v.deeds
  fa : ∀ g, ka.ownBlock = some g → base ≤ g
  fw : ∀ g, kw.ownBlock = some g → base ≤ g
  fh : ∀ g, kh.ownBlock = some g → base ≤ g
  fd : ∀ g, kd.ownBlock = some g → base ≤ g
theorem VP.no {v : M2.View} {base : Nat} {ka kw kh kd : Value} {w w' : World} (h : VP v base ka kw kh kd w) (hm : Mod No w w') : VP v base ka kw kh kd w' := ⟨h.ok, h.kok, h.n24, h.nh, h.ah.no hm, h.wo.no hm, h.hi.no hm, h.de.no hm, h.fa, h.fw, h.fh, h.fd⟩
def NPost (r : Option M2.View) (w : World) (e : Ending) (w' : World) : Prop := Mod No w w' ∧ match r with
  | none => e = .returned (.tuple #[.agg #[nilS, nilS, nilS, nilS], .bool false])
  | some v => ∃ ka kw kh kd, e = .returned (.tuple #[.agg #[ka, kw, kh, kd], .bool true]) ∧ VP v w.heap.size ka kw kh kd w'

structure NI (w : World) (vs lx lh : Value) (ss : List Nat) (au : M2.Auto) (wr : World) : Prop where
  res : Blk wr w.heap.size [nilS, nilS, nilS, nilS] 90
  aut : Blk wr (w.heap.size + 1) [lx, lh] 142
  nx : Row R4E wr lx au.nx
  hit : Row BoE wr lh au.hit
  st : Row InE wr vs ss
  md : Mod No w wr
  fx : ∀ g, lx.ownBlock = some g → w.heap.size ≤ g
  fh : ∀ g, lh.ownBlock = some g → w.heap.size ≤ g
  fs : ∀ g, vs.ownBlock = some g → w.heap.size ≤ g
section
variable {w : World} {vs lx lh : Value} {ss : List Nat} {au : M2.Auto} {wr wr' : World}
theorem NI.no (h : NI w vs lx lh ss au wr) (hm : Mod No wr wr') : NI w vs lx lh ss au wr' :=
  ⟨h.res.mod hm (fun x => x), h.aut.mod hm (fun x => x), h.nx.no hm, h.hit.no hm, h.st.no hm, h.md.no hm, h.fx, h.fh, h.fs⟩
theorem NI.start {v2 : Value} {s2 : List Nat} (h : NI w vs lx lh ss au wr) (hg : wr.grownBy wr' vs.ownBlock) (hrow : Row InE wr' v2 s2) (hf : Fresh wr vs v2) : NI w v2 lx lh s2 au wr' := by
  have kb : ∀ {b : Nat} {cs : List Value} {T : Nat}, Blk wr b cs T → T ≠ 3 → Blk wr' b cs T := fun hb ht => hb.grown hg (fun e => hb.apart h.st ht e.symm)
  refine ⟨kb h.res (by decide), kb h.aut (by decide), h.nx.grown hg (h.nx.far h.st (by decide)), h.hit.grown hg (h.hit.far h.st (by decide)), hrow, h.md.grown hg (fun g e hlt => by have := h.fs g e; omega), h.fx, h.fh, fun g hg => ?_⟩
  rcases hf g hg with e | e
  · exact h.fs g e
  · have := h.md.size; omega
theorem NI.add {X : Nat} {ux uh lx' lh' : Value} {c au' : M2.Auto} (h : NI w vs lx lh ss au wr) (hA : AI wr (w.heap.size + 1) X lx lh ux uh c lx' lh' au' wr') : NI w vs lx' lh' ss au' wr' := by
  have hS : ∀ {b : Nat} {cs : List Value} {T : Nat}, Blk wr b cs T → T ≠ 142 → T ≠ 106 → T ≠ 4 → ¬ (b = w.heap.size + 1 ∨ lx.ownBlock = some b ∨ lh.ownBlock = some b) := fun hb h1 h2 h3 e => by
    rcases e with e | e | e
    · exact hb.diff h.aut h1 e
    · exact hb.apart h.nx h2 e
    · exact hb.apart h.hit h3 e
  refine ⟨h.res.mod hA.md (hS h.res (by decide) (by decide) (by decide)), hA.aut, hA.nx, hA.hit, h.st.mod hA.md (fun g hg e => ?_), h.md.trans' hA.md (fun k hk e => ?_), fun g hg => ?_, fun g hg => ?_, h.fs⟩
  · rcases e with e | e | e
    · exact h.aut.apart h.st (by decide) (by rw [hg, e])
    · exact h.st.apart h.nx (by decide) hg e
    · exact h.st.apart h.hit (by decide) hg e
  · rcases e with e | e | e
    · omega
    · have := h.fx k e; omega
    · have := h.fh k e; omega
  · rcases hA.fx g hg with e | e
    · exact h.fx g e
    · have := h.md.size; omega
  · rcases hA.fh g hg with e | e
    · exact h.fh g e
    · have := h.md.size; omega
end
/-- Behind the kinds: the view in its block. -/
structure DI (w : World) (V : Nat) (ka kw kh kd : Value) (k : M2.Kinds) (ds : List (Nat × List UInt8)) (vs : Value) (ss : List Nat) (wr : World) : Prop where
  res : Blk wr w.heap.size [nilS, nilS, nilS, nilS] 90
  vie : Blk wr V [ka, kw, kh, kd] 90
  ah : Row R4E wr ka k.ahead
  wo : Row StE wr kw k.words
  hi : Row HiE wr kh k.hits
  de : Row DeE wr kd ds
  st : Row InE wr vs ss
  md : Mod No w wr
  fd : ∀ g, kd.ownBlock = some g → w.heap.size ≤ g
  oV : w.heap.size < V
section
variable {w : World} {V : Nat} {ka kw kh kd : Value} {k : M2.Kinds} {ds : List (Nat × List UInt8)} {vs : Value} {ss : List Nat} {wr wr' : World}
theorem DI.no (h : DI w V ka kw kh kd k ds vs ss wr) (hm : Mod No wr wr') : DI w V ka kw kh kd k ds vs ss wr' :=
  ⟨h.res.mod hm (fun x => x), h.vie.mod hm (fun x => x), h.ah.no hm, h.wo.no hm, h.hi.no hm, h.de.no hm, h.st.no hm, h.md.no hm, h.fd, h.oV⟩
theorem DI.more {w7 : World} {v2 : Value} {d2 : List (Nat × List UInt8)} (h : DI w V ka kw kh kd k ds vs ss wr) (hg : wr.grownBy w7 kd.ownBlock) (hrow : Row DeE w7 v2 d2) (hf : Fresh wr kd v2) : DI w V ka kw kh v2 k d2 vs ss (w7.setCell ⟨V, 3, none⟩ v2) := by
  have kb : ∀ {b : Nat} {cs : List Value} {T : Nat}, Blk wr b cs T → T ≠ 149 → Blk w7 b cs T := fun hb ht => hb.grown hg (fun e => hb.apart h.de ht e.symm)
  have hV := kb h.vie (by decide)
  have oV := h.oV
  have r1 := h.ah.grown hg (h.ah.far h.de (by decide))
  have r2 := h.wo.grown hg (h.wo.far h.de (by decide))
  have r3 := h.hi.grown hg (h.hi.far h.de (by decide))
  have r4 := h.st.grown hg (h.st.far h.de (by decide))
  have hm7 : Mod No w w7 := h.md.grown hg fun g e hlt => by have := h.fd g e; omega
  refine ⟨(kb h.res (by decide)).other (a := ⟨V, 3, none⟩) (by show w.heap.size ≠ V; omega) _, hV.set 3 v2, r1.other (a := ⟨V, 3, none⟩) (hV.apart r1 (by decide)) _, r2.other (a := ⟨V, 3, none⟩) (hV.apart r2 (by decide)) _, r3.other (a := ⟨V, 3, none⟩) (hV.apart r3 (by decide)) _, hrow.other (a := ⟨V, 3, none⟩) (hV.apart hrow (by decide)) _, r4.other (a := ⟨V, 3, none⟩) (hV.apart r4 (by decide)) _, hm7.setCell (a := ⟨V, 3, none⟩) (fun e => absurd e (by show ¬ V < w.heap.size; omega)) _, fun g hg => ?_, h.oV⟩
  rcases hf g hg with e | e
  · exact h.fd g e
  · have := h.md.size; omega
end
end Go.Proofs.YtmbapmbpnnaanabGreatDoor
