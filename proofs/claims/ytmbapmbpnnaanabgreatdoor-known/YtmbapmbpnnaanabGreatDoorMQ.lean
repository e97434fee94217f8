import Derived.Test.YtmbapmbpnnaanabGreatDoorMN
namespace Go.Proofs.YtmbapmbpnnaanabGreatDoor
open Go.RowKit
attribute [local go_sem ↓] Go.wp_at_zero Go.wp_at_succ

theorem apAll_step {v : M2.View} {su : M2.Sure} {f : Nat} {s R : M2.Apart} (h : M2.apAll v su (f + 1) s = some R) : ∃ b s2, M2.apK v su v.k.ahead 0 s false = some (b, s2) ∧ ((b = true ∧ M2.apAll v su f s2 = some R) ∨ (b = false ∧ s2 = R)) := by
  rw [M2.apAll] at h
  split at h
  · cases h
  · rename_i b s2 hc
    refine ⟨b, s2, hc, ?_⟩
    cases b with
    | true => exact Or.inl ⟨rfl, by simpa using h⟩
    | false => exact Or.inr ⟨rfl, by simpa using h⟩
theorem apK_step {v : M2.View} {su : M2.Sure} {rs : List Mir.R4} {k : Nat} {r : Mir.R4} {s : M2.Apart} {b : Bool} {R : Bool × M2.Apart} (hr : rs[k]? = some r) (h : M2.apK v su (rs.drop k) k s b = some R) : ∃ b2 s2, M2.apL v su k r 4 s b = some (b2, s2) ∧ M2.apK v su (rs.drop (k + 1)) (k + 1) s2 b2 = some R := by
  obtain ⟨h1, h2⟩ := List.getElem?_eq_some_iff.1 hr
  rw [List.drop_eq_getElem_cons h1, h2, M2.apK] at h
  split at h
  · cases h
  · rename_i b2 s2 hl
    exact ⟨b2, s2, hl, h⟩
theorem apL_step {v : M2.View} {su : M2.Sure} {k n : Nat} {r : Mir.R4} {s : M2.Apart} {b : Bool} {R : Bool × M2.Apart} (h : M2.apL v su k r (n + 1) s b = some R) : ∃ longer x s2, r.get (3 - n) = some longer ∧ M2.tellX v su longer (3 - n) k 4 0 s false = some (x, s2) ∧ M2.apL v su k r n s2 (b || x) = some R := by
  rw [M2.apL] at h
  split at h
  · cases h
  · rename_i longer hg
    split at h
    · cases h
    · rename_i x s2 hc
      exact ⟨longer, x, s2, hg, hc, h⟩
def ap0 : List (List Bool) := [Mir.none4, Mir.none4, Mir.none4, Mir.none4]
theorem Tryz.info254 : (Tryz.prog.info? 254).map (fun i => (i.zero, i.size, i.bytes)) = some (some (.agg (ApE.f ap0).toArray), 16, 16) := by kernel_rfl
theorem ap0_cells : ApE.f ap0 = List.replicate 16 (.bool false) := rfl
theorem ap0_flat (n : Nat) : (List.replicate n ap0).flatMap ApE.f = List.replicate (n * 16) (.bool false) := by
  induction n with
  | zero => rfl
  | succ n ih => rw [List.replicate_succ, List.flatMap_cons, ih, ap0_cells, List.replicate_append_replicate, Nat.succ_mul, Nat.add_comm]
def apC (n : Nat) : Array Value := (List.replicate (n * 16) (.bool false)).toArray
theorem made_ap (n : Nat) : madeCells (Value.agg (ApE.f ap0).toArray).cells (n * 16) = apC n := by
  have e : (Value.agg (ApE.f ap0).toArray).cells = Array.replicate 16 (.bool false) := rfl
  rw [e]
  unfold madeCells apC
  apply Array.ext'
  rw [Array.toList_map]
  apply List.ext_getElem?
  intro j
  rw [List.getElem?_map, List.getElem?_replicate]
  by_cases hj : j < n * 16
  · have hm : j % 16 < 16 := Nat.mod_lt _ (by omega)
    rw [if_pos hj]
    simp [hj]
    rw [getElem!_pos (Array.replicate 16 (Value.bool false)) (j % 16) (by rw [Array.size_replicate]; exact hm)]
    simp
  · rw [if_neg hj]
    simp [hj]
theorem make_apart (n : Nat) (hn : n ≤ 1000) (w : World) : (Instr.makeSlice 152 (.int .i64 (n : Int)) (.int .i64 (n : Int))).run Tryz.prog w = .ok (.slice (some ⟨w.heap.size, 0, none⟩) n n) (w.alloc (.cells (apC n) 254)) := by
  obtain ⟨i0, hinf, hz0, hz1, hz2⟩ := info_parts Tryz.info254
  have hr := run_make (P := Tryz.prog) w 152 254 i0 _ Tryz.underlying152 hinf hz0 .i64 .i64 n n (by omega) (Int.le_refl _) (by rw [hz2]; omega) (by omega)
  rw [Int.toNat_natCast, hz1] at hr
  rw [hr, made_ap]
structure FA (w : World) (v : M2.View) (su : M2.Sure) (ap : M2.Apart) (base O : Nat) (ka kw kh kd vs va : Value) (wr : World) : Prop where
  ol : OL v su ap base O ka kw kh kd vs va wr
  md : Mod (fun q => q = O) w wr
  fs : ∀ g, va.ownBlock = some g → w.heap.size ≤ g
theorem FA.no {w : World} {v : M2.View} {su : M2.Sure} {ap : M2.Apart} {base O : Nat} {ka kw kh kd vs va : Value} {wr wr' : World} (h : FA w v su ap base O ka kw kh kd vs va wr) (hm : Mod No wr wr') : FA w v su ap base O ka kw kh kd vs va wr' := ⟨h.ol.no hm, h.md.no hm, h.fs⟩
theorem AOk.zero (n : Nat) : AOk (List.replicate n ap0) n := ⟨by simp, fun r hr => by rw [List.eq_of_mem_replicate hr]; exact ⟨rfl, fun q hq => by simp [ap0] at hq; rw [hq]; rfl⟩⟩

set_option maxHeartbeats 1600000 in
set_option maxRecDepth 100000 in
theorem findApart_any (w : World) (v : M2.View) (su : M2.Sure) (base O : Nat) (ka kw kh kd vs : Value) (hO : OL v su [] base O ka kw kh kd vs nilS w) (hs : SOk su v.k.ahead.length) {s1 : M2.Apart} (h1 : M2.apAll v su 1000 (List.replicate su.length ap0) = some s1) :
    Calls Tryz.prog 95 #[.pointer (some ⟨O, 0, none⟩)] w fun e w' => e = .returned (.tuple #[]) ∧ ∃ va, FA w v su s1 base O ka kw kh kd vs va w' ∧ AOk s1 v.k.ahead.length := by
  have hvp := hO.vp
  obtain ⟨i, hi⟩ : ∃ i, i = v.k.ahead.length := ⟨_, rfl⟩
  have hn0 : 0 < i := by rw [hi, ← hvp.nh]; exact hvp.kok.pos
  have hn24 : i ≤ 24 := by rw [hi]; exact hvp.n24
  obtain ⟨a1, c1, e1, -, -⟩ := hvp.ah.open hi.symm
  obtain ⟨a5, c5, e5, -, -⟩ := hO.su.open (n := i) (by rw [hs.len]; exact hi.symm)
  have H77 : Hid (∀ (wx : World) (ap : M2.Apart) (gs cap kind l next : Nat) (b' : Bool) (ap' : M2.Apart), OL v su ap base O ka kw kh kd vs (.slice (some ⟨gs, 0, none⟩) i cap) wx → AOk ap i → kind < i → next < i → l < 4 → M2.tellX v su kind l next 4 0 ap false = some (b', ap') → Calls Tryz.prog 129 #[.pointer (some ⟨O, 0, none⟩), .int .i64 (kind : Int), .int .i64 (l : Int), .int .i64 (next : Int)] wx fun e w' => e = .returned (.bool b') ∧ OL v su ap' base O ka kw kh kd vs (.slice (some ⟨gs, 0, none⟩) i cap) w' ∧ AOk ap' i ∧ Mod (fun q => q = gs) wx w') := fun wx ap gs cap kind l next b' ap' hOx hs' hk hx hl hM => tell_any wx v su ap base O ka kw kh kd vs gs i cap hOx hi (by rw [hi]; exact hs) hs' kind l next hk hx hl hM
  have HV : Hid (VOk v ∧ i = v.k.ahead.length) := ⟨hvp.ok, hi⟩
  have HE : Hid (ka = .slice a1 i c1) := e1
  have H1 : Hid (M2.apAll v su 1000 (List.replicate i ap0) = some s1) := by
    show M2.apAll v su 1000 (List.replicate i ap0) = some s1
    rw [hi, ← hs.len]; exact h1
  have hmk := make_apart i (by omega)
  have hB := hO.blk
  have o4 := hB.cellA 4 rfl
  have p4 := hB.cell 4 rfl
  rw [e5] at o4 p4
  have o5 := hB.cellA 5 rfl
  have f5 := hB.freeA 5
  have HI0 : Hid (∀ A, A = Obj.cells (apC i) 254 → FA w v su (List.replicate i ap0) base O ka kw kh kd vs (.slice (some ⟨w.heap.size, 0, none⟩) i i) ((w.alloc A).setCell ⟨O, 5, none⟩ (.slice (some ⟨w.heap.size, 0, none⟩) i i))) := by
    intro A hA
    subst hA
    have hm : Mod No w (w.alloc (.cells (apC i) 254)) := (Mod.refl _ _).alloc _
    have h1 := hO.no hm
    have hrow : Row ApE (w.alloc (.cells (apC i) 254)) (.slice (some ⟨w.heap.size, 0, none⟩) i i) (List.replicate i ap0) := by
      have hb : Blk (w.alloc (.cells (apC i) 254)) w.heap.size ((List.replicate i ap0).flatMap ApE.f) 254 := by
        rw [ap0_flat]
        exact heap_alloc_new w _
      have := Row.of_block (E := ApE) hb (by simp; unfold maxLen; omega)
      simpa using this
    have hm2 : Mod (fun q => q = O) (w.alloc (.cells (apC i) 254)) ((w.alloc (.cells (apC i) 254)).setCell ⟨O, 5, none⟩ (.slice (some ⟨w.heap.size, 0, none⟩) i i)) := (Mod.refl (fun q => q = O) _).setCell (a := ⟨O, 5, none⟩) (fun _ => rfl) _
    have key : ∀ {α : Type} {E : Enc α} {v : Value} {xs : List α}, Row E (w.alloc (.cells (apC i) 254)) v xs → E.T ≠ 154 → Row E ((w.alloc (.cells (apC i) 254)).setCell ⟨O, 5, none⟩ (.slice (some ⟨w.heap.size, 0, none⟩) i i)) v xs := fun hr ht => hr.mod hm2 (fun g hg e => h1.blk.apart hr (fun e2 => ht e2.symm) (by rw [hg, e]))
    have hv := h1.vp
    refine ⟨⟨h1.blk.set 5 _, ⟨hv.ok, hv.kok, hv.n24, hv.nh, key hv.ah (by decide), key hv.wo (by decide), key hv.hi (by decide), key hv.de (by decide), hv.fa, hv.fw, hv.fh, hv.fd⟩, key h1.su (by decide), key hrow (by decide)⟩, (((Mod.refl _ _).alloc _ : Mod (fun q => q = O) w _)).trans hm2, fun g hg => by cases hg; exact Nat.le_refl _⟩
  have hOne : ¬ O = w.heap.size := by have := hB.lt; omega
  rw [← hi]
  clear hvp hO hs h1 hi e1 e5 hB
  go_enter Tryz.func95, Tryz.ntmps95
  go_wp2_with fail
  have HI : Hid (FA w v su (List.replicate i ap0) base O ka kw kh kd vs (.slice (some ⟨w.heap.size, 0, none⟩) i i) _) := HI0.out _ rfl
  have HSK : Hid (AOk (List.replicate i ap0) i) := AOk.zero i
  clear HI0 hmk o4 o5 f5 p4
  generalize (w.alloc (Obj.cells (apC i) 254)).setCell ⟨O, 5, none⟩ (.slice (some ⟨w.heap.size, 0, none⟩) i i) = W0 at HI ⊢
  have hfs : w.heap.size ≤ w.heap.size := Nat.le_refl _
  generalize hgs : w.heap.size = gs at HI hOne
  rw [hgs] at hfs
  obtain ⟨cs, hcs⟩ : ∃ cs, cs = i := ⟨_, rfl⟩
  have HI : Hid (FA w v su (List.replicate i ap0) base O ka kw kh kd vs (.slice (some ⟨gs, 0, none⟩) i cs) W0) := by rw [hcs]; exact HI.out
  have hfs : w.heap.size ≤ gs := by omega
  clear hcs hgs
  go_loopg [2] 1001 (fun gh v2 wr => ∃ (b : Bool) (s : M2.Apart), v2 = .bool b ∧ FA w v su s base O ka kw kh kd vs (.slice (some ⟨gs, 0, none⟩) i cs) wr ∧ AOk s i ∧ ((b = true ∧ ∃ f, gh = f + 1 ∧ M2.apAll v su f s = some s1) ∨ (b = false ∧ s = s1)))
  case atStart => exact ⟨true, _, rfl, HI.out, HSK.out, Or.inl ⟨rfl, 1000, rfl, H1.out⟩⟩
  case round =>
    clear HI HSK H1
    obtain ⟨b, s, rfl, hI, hsk, hb⟩ := hrel
    have HI : Hid (FA w v su s base O ka kw kh kd vs (.slice (some ⟨gs, 0, none⟩) i cs) wr) := hI
    have HSK : Hid (AOk s i) := hsk
    rcases hb with ⟨rfl, f, hgf, hall⟩ | ⟨rfl, rfl⟩
    · match f, hgf, hall with
      | 0, hgf, hall => cases hall
      | f + 1, hgf, hall =>
        obtain ⟨b2, s2, hK, hend⟩ := apAll_step hall
        have HK : Hid (M2.apK v su (v.k.ahead.drop 0) 0 s false = some (b2, s2)) := hK
        have HEND : Hid ((b2 = true ∧ M2.apAll v su f s2 = some s1) ∨ (b2 = false ∧ s2 = s1)) := hend
        have o0 := hI.ol.blk.cell 0 rfl
        rw [HE.out] at o0
        clear hI hsk hall hK hend
        go_wp2_with fail
        clear o0
        go_loopg [2, 24] i (fun gh v2 v24 wr => ∃ (k : Nat) (b : Bool) (s : M2.Apart), k ≤ i ∧ gh = i - k ∧ v24 = .int .i64 (k : Int) ∧ v2 = .bool b ∧ FA w v su s base O ka kw kh kd vs (.slice (some ⟨gs, 0, none⟩) i cs) wr ∧ AOk s i ∧ M2.apK v su (v.k.ahead.drop k) k s b = some (b2, s2))
        case atStart => exact ⟨0, false, s, by omega, by omega, rfl, rfl, HI.out, HSK.out, HK.out⟩
        case round =>
          clear HI HSK HK
          obtain ⟨k, b, s, hki, hgk2, rfl, rfl, hI, hsk, hK⟩ := hrel
          have HI : Hid (FA w v su s base O ka kw kh kd vs (.slice (some ⟨gs, 0, none⟩) i cs) wr) := hI
          have HSK : Hid (AOk s i) := hsk
          by_cases hkl : k < i
          · obtain ⟨r, hr⟩ : ∃ r, v.k.ahead[k]? = some r := ⟨v.k.ahead[k]'(by have := HV.out.2; omega), List.getElem?_eq_getElem _⟩
            obtain ⟨b3, s3, hL, hK2⟩ := apK_step hr hK
            have hra := hI.ol.vp.ah
            rw [HE.out] at hra
            obtain ⟨ga, hga⟩ : ∃ g, a1 = some ⟨g, 0, none⟩ := by
              obtain ⟨g2, c2, h2, -⟩ := hI.ol.vp.ah.form (by have := HV.out.2; omega)
              rw [HE.out] at h2
              injection h2 with h2 _
              exact ⟨g2, h2⟩
            subst hga
            have r0 : wr.cell? ⟨ga, k * 4, none⟩ = some (.int .i64 (r.a : Int)) := hra.cell k 0 hr rfl
            have r1 : wr.cell? ⟨ga, k * 4 + 1, none⟩ = some (.int .i64 (r.b : Int)) := hra.cell k 1 hr rfl
            have r2 : wr.cell? ⟨ga, k * 4 + 2, none⟩ = some (.int .i64 (r.c : Int)) := hra.cell k 2 hr rfl
            have r3 : wr.cell? ⟨ga, k * 4 + 3, none⟩ = some (.int .i64 (r.d : Int)) := hra.cell k 3 hr rfl
            have HL : Hid (M2.apL v su k r 4 s b = some (b3, s3)) := hL
            have HK2 : Hid (M2.apK v su (v.k.ahead.drop (k + 1)) (k + 1) s3 b3 = some (b2, s2)) := hK2
            have HENT : Hid (∀ l q, r.get l = some q → q < i) := fun l q hq => by have := HV.out.1.ent r (List.mem_of_getElem? hr) l q hq; have := HV.out.2; omega
            have hkii : (k : Int) < (i : Int) := by omega
            have HI1 : Hid (FA w v su s base O ka kw kh kd vs (.slice (some ⟨gs, 0, none⟩) i cs) (wr.alloc (Obj.cells #[.int .i64 (r.a : Int), .int .i64 (r.b : Int), .int .i64 (r.c : Int), .int .i64 (r.d : Int)] 106))) := HI.out.no ((Mod.refl _ _).alloc _)
            clear hI hsk hK hL hK2 hra hr HI
            go_wp2_with fail
            clear r0 r1 r2 r3
            generalize wr.alloc (Obj.cells #[.int .i64 (r.a : Int), .int .i64 (r.b : Int), .int .i64 (r.c : Int), .int .i64 (r.d : Int)] 106) = W1 at HI1 ⊢
            go_loopg [2, 30] 4 (fun gh v2 v22 wr => ∃ (l : Nat) (b : Bool) (s : M2.Apart), l ≤ 4 ∧ gh = 4 - l ∧ v22 = .int .i64 (l : Int) ∧ v2 = .bool b ∧ FA w v su s base O ka kw kh kd vs (.slice (some ⟨gs, 0, none⟩) i cs) wr ∧ AOk s i ∧ M2.apL v su k r gh s b = some (b3, s3))
            case atStart => exact ⟨0, b, s, by omega, rfl, rfl, rfl, HI1.out, HSK.out, HL.out⟩
            case round =>
              clear HI1 HSK HL
              obtain ⟨l, b, s, hl4, hgl, rfl, rfl, hI, hsk, hL⟩ := hrel
              have HI : Hid (FA w v su s base O ka kw kh kd vs (.slice (some ⟨gs, 0, none⟩) i cs) wr) := hI
              have HSK : Hid (AOk s i) := hsk
              match gk, hgl, hL with
              | 0, hgl, hL =>
                obtain rfl : l = 4 := by omega
                have HB : Hid (b = b3 ∧ s = s3) := by
                  have h : some (b, s) = some (b3, s3) := hL
                  cases h; exact ⟨rfl, rfl⟩
                have h44 : ¬ ((4 : Nat) : Int) < 4 := by omega
                clear hL hI hsk hgl hl4 H77
                go_wp2
                go_roundg (i - (k + 1))
                case measure => omega
                case rel => exact ⟨k + 1, b3, s3, by omega, rfl, by go_num, by rw [HB.out.1], by rw [← HB.out.2]; exact HI.out, by rw [← HB.out.2]; exact HSK.out, HK2.out⟩
              | g + 1, hgl, hL =>
                obtain ⟨longer, x, s4, hget, hc, hL2⟩ := apL_step hL
                obtain rfl : l = 3 - g := by omega
                have hl3 : 3 - g < 4 := by omega
                have h77 := H77.out wr s gs cs longer (3 - g) k x s4 hI.ol hsk (HENT.out _ _ hget) hkl hl3 hc
                have hix := ixR r (3 - g) longer hl3 hget
                have HL2 : Hid (M2.apL v su k r g s4 (b || x) = some (b3, s3)) := hL2
                have hli : ((3 - g : Nat) : Int) < 4 := by omega
                obtain ⟨L, hLL⟩ : ∃ L, L = 3 - g := ⟨_, rfl⟩
                rw [← hLL] at h77 hix hli hgl hl4 ⊢
                clear hI hsk hL hL2 hc hget hLL
                go_wp2_with fail
                refine h77.mono ?_
                rintro e w3 ⟨rfl, ho3, hs3, m3⟩
                have HI3 : Hid (FA w v su s4 base O ka kw kh kd vs (.slice (some ⟨gs, 0, none⟩) i cs) w3 ∧ AOk s4 i) := ⟨⟨ho3, HI.out.md.trans' m3 (fun q hq e => by omega), HI.out.fs⟩, hs3⟩
                clear h77 hix ho3 hs3 m3 HI
                cases x with
                | true =>
                  have HL3 : Hid (M2.apL v su k r g s4 true = some (b3, s3)) := by have h := HL2.out; rw [Bool.or_true] at h; exact h
                  go_wp2
                  go_roundg g
                  case measure => omega
                  case rel => exact ⟨L + 1, true, s4, by omega, by omega, by go_num, rfl, HI3.out.1, HI3.out.2, HL3.out⟩
                | false =>
                  have HL3 : Hid (M2.apL v su k r g s4 b = some (b3, s3)) := by have h := HL2.out; rw [Bool.or_false] at h; exact h
                  go_wp2
                  go_roundg g
                  case measure => omega
                  case rel => exact ⟨L + 1, b, s4, by omega, by omega, by go_num, rfl, HI3.out.1, HI3.out.2, HL3.out⟩
          · obtain rfl : k = i := by omega
            have e1 : v.k.ahead.drop k = [] := List.drop_of_length_le (by have := HV.out.2; omega)
            rw [e1, M2.apK] at hK
            have HB : Hid (b = b2 ∧ s = s2) := by
              have h : some (b, s) = some (b2, s2) := hK
              cases h; exact ⟨rfl, rfl⟩
            have hkk : ¬ (k : Int) < (k : Int) := by omega
            clear hI hsk hK e1 H77
            go_wp2
            go_roundg (f + 1)
            case measure => omega
            case rel =>
              refine ⟨b2, s2, by rw [HB.out.1], by rw [← HB.out.2]; exact HI.out, by rw [← HB.out.2]; exact HSK.out, ?_⟩
              rcases HEND.out with ⟨h1, h2⟩ | h
              · exact Or.inl ⟨h1, f, rfl, h2⟩
              · exact Or.inr h
    · clear hI hsk H77
      go_wp2
      go_end0
      exact ⟨rfl, _, HI.out, HSK.out⟩
end Go.Proofs.YtmbapmbpnnaanabGreatDoor
namespace Go.Proofs.YtmbapmbpnnaanabGreatDoor
open Go.RowKit

/-! bundles -/
def padN (l : List Nat) : List Nat := (l ++ List.replicate 24 0).take 24
def padS (l : List (List UInt8)) : List (List UInt8) := (l ++ List.replicate 24 []).take 24
def nat (n : Nat) : Value := .int .i64 (n : Int)
def bc (b : M2.Bundle) : List Value := (padN b.tc).map nat ++ (padS b.held).map str
theorem padN_len (l : List Nat) : (padN l).length = 24 := by simp [padN]
theorem padS_len (l : List (List UInt8)) : (padS l).length = 24 := by simp [padS]
theorem padN_id {l : List Nat} (h : l.length = 24) : padN l = l := by
  unfold padN; rw [List.take_append_of_le_length (by omega), List.take_of_length_le (by omega)]
theorem padS_id {l : List (List UInt8)} (h : l.length = 24) : padS l = l := by
  unfold padS; rw [List.take_append_of_le_length (by omega), List.take_of_length_le (by omega)]
theorem bc_len (b : M2.Bundle) : (bc b).length = 48 := by simp [bc, padN_len, padS_len]
def BuE : Enc M2.Bundle := ⟨159, 48, bc, bc_len⟩
theorem Tryz.info159 : (Tryz.prog.info? 159).map (fun i => (i.zero, i.size, i.bytes)) = some (some (.agg (bc M2.bundle0).toArray), 48, 576) := by kernel_rfl
theorem Tryz.size98 : (Tryz.prog.info? 159).map (·.size) = some 48 := by kernel_rfl
theorem bc_one (b : M2.Bundle) : ∀ v ∈ bc b, v.oneCell' = true := by
  intro v hv
  rcases List.mem_append.1 hv with h | h
  · obtain ⟨x, _, rfl⟩ := List.mem_map.1 h; rfl
  · obtain ⟨x, _, rfl⟩ := List.mem_map.1 h; rfl
theorem bc_size (b : M2.Bundle) : (bc b).toArray.size = 48 := by simp [bc_len]
theorem bc_ok (b : M2.Bundle) : okAg 48 (.agg (bc b).toArray) = true := by
  unfold okAg
  rw [Bool.and_eq_true]
  exact ⟨by simp [bc_len], all_oneCell_toArray (bc_one b)⟩
theorem isRow_bc (w : World) (b : M2.Bundle) : isRowB (w.alloc (.cells (bc b).toArray 159)) w.heap.size 48 = true := isRow_new w _ _ _ (bc_size b)
/-- A bundle of the right make. -/
structure BOk (b : M2.Bundle) : Prop where
  t : b.tc.length = 24
  h : b.held.length = 24
theorem bc_tc {b : M2.Bundle} (hb : BOk b) {k x : Nat} (hx : b.tc[k]? = some x) : (bc b)[k]? = some (.int .i64 (x : Int)) := by
  have hk : k < 24 := by have := (List.getElem?_eq_some_iff.1 hx).1; rw [hb.t] at this; exact this
  unfold bc
  rw [List.getElem?_append_left (by simp [padN_len]; exact hk), List.getElem?_map, padN_id hb.t, hx]
  rfl
theorem bc_held {b : M2.Bundle} (hb : BOk b) {k : Nat} {x : List UInt8} (hx : b.held[k]? = some x) : (bc b)[24 + k]? = some (.string ⟨x.toArray⟩) := by
  unfold bc
  rw [List.getElem?_append_right (by simp [padN_len]), List.getElem?_map, List.length_map, padN_len, Nat.add_sub_cancel_left, padS_id hb.h, hx]
  rfl
theorem bc_setT {b : M2.Bundle} (hb : BOk b) {k x : Nat} (hk : k < 24) : bc { b with tc := b.tc.set k x } = (bc b).set k (.int .i64 (x : Int)) := by
  unfold bc
  rw [List.set_append_left _ _ (by simp [padN_len]; exact hk), padN_id (by simp [hb.t]), padN_id hb.t]
  show (b.tc.set k x).map nat ++ _ = _
  rw [List.map_set]; rfl
theorem bc_setH {b : M2.Bundle} (hb : BOk b) {k : Nat} {x : List UInt8} : bc { b with held := b.held.set k x } = (bc b).set (24 + k) (.string ⟨x.toArray⟩) := by
  unfold bc
  rw [List.set_append_right _ _ (by simp [padN_len]), List.length_map, padN_len, Nat.add_sub_cancel_left, padS_id (by simp [hb.h]), padS_id hb.h]
  show _ ++ (b.held.set k x).map str = _
  rw [List.map_set]; rfl
theorem BOk.zero : BOk M2.bundle0 := ⟨rfl, rfl⟩

/-! two of them compared -/
theorem eqItems_gen {α : Type} [DecidableEq α] (P : Program) (d e : Nat) (f : α → Value) (hp : P.plainKey e = true) (heq : ∀ (a b : α) (w : World), (Op.equalIn (d + 1) e (f a) (f b)).run P w = .ok (decide (a = b)) w) (xs ys : List α) (w : World) : ∀ is : List Nat, (∀ i ∈ is, i < xs.length ∧ i < ys.length) → (Op.eqItems (d + 1) e 1 (xs.map f).toArray (ys.map f).toArray is).run P w = .ok (is.all fun i => xs[i]? == ys[i]?) w
  | [], _ => by simp [Op.eqItems]
  | i :: is, h => by
    obtain ⟨h1, h2⟩ := h i (by simp)
    have p1 := run_part_plain (P := P) w hp (xs := (xs.map f).toArray) (off := i * 1) (v := f xs[i]) (by simp [h1])
    have p2 := run_part_plain (P := P) w hp (xs := (ys.map f).toArray) (off := i * 1) (v := f ys[i]) (by simp [h2])
    have ih := eqItems_gen P d e f hp heq xs ys w is (fun j hj => h j (by simp [hj]))
    simp only [Op.eqItems, Sem.run_bind, p1, p2, Result.andThen_ok, heq]
    rw [List.all_cons, List.getElem?_eq_getElem h1, List.getElem?_eq_getElem h2]
    by_cases hq : xs[i] = ys[i]
    · have : (some xs[i] == some ys[i]) = true := by simp [hq]
      simp only [this, decide_eq_true hq, Bool.not_true, Bool.false_eq_true, if_false, Bool.true_and]
      exact ih
    · have : (some xs[i] == some ys[i]) = false := by simp [hq]
      simp [this, hq]
theorem Tryz.plain3 : Tryz.prog.plainKey 3 = true := by kernel_rfl
theorem Tryz.plain9 : Tryz.prog.plainKey 9 = true := by kernel_rfl
theorem Tryz.cells3 : Tryz.prog.cellsOf 3 = 1 := by kernel_rfl
theorem Tryz.cells9 : Tryz.prog.cellsOf 9 = 1 := by kernel_rfl
theorem Tryz.stood98 : Tryz.prog.stoodInHeld 159 = false := by kernel_rfl
theorem Tryz.fields98 : Tryz.prog.underlying 159 = some (.struct (Tryz.prog.fieldsOf 159)) := by kernel_rfl
theorem Tryz.fieldsList98 : (Tryz.prog.fieldsOf 159).toList = [{ name := "toCome", type := 156, offset := 0, embedded := false, tag := "", pkgPath := "rewrite/early", byteOffset := 0 }, { name := "held", type := 157, offset := 24, embedded := false, tag := "", pkgPath := "rewrite/early", byteOffset := 192 }] := by kernel_rfl
theorem equal_nat (d : Nat) (a b : Nat) (w : World) : (Op.equalIn (d + 1) 3 (nat a) (nat b)).run Tryz.prog w = .ok (decide (a = b)) w := by
  unfold nat
  rw [run_equalIn_int w d 3 .i64 .i64 _ _ Tryz.underlying3, beq_cast]
theorem equal_str (d : Nat) (a b : List UInt8) (w : World) : (Op.equalIn (d + 1) 9 (str a) (str b)).run Tryz.prog w = .ok (decide (a = b)) w := by
  unfold str
  rw [run_equalIn_string w d 9 _ _ Tryz.underlying9, toList_data, toList_data]
  congr 1
  rw [Bool.eq_iff_iff]
  simp
theorem part95 (xs : Array Value) (w : World) : (part 156 xs 0).run Tryz.prog w = .ok (.agg (xs.extract 0 24)) w := by
  simp [part, Tryz.isAgg156, Tryz.sizeOf156]
theorem part96 (xs : Array Value) (w : World) : (part 157 xs 24).run Tryz.prog w = .ok (.agg (xs.extract 24 48)) w := by
  simp [part, Tryz.isAgg157, Tryz.sizeOf157]
theorem bc_left (b : M2.Bundle) : (bc b).toArray.extract 0 24 = ((padN b.tc).map nat).toArray := by
  apply Array.ext'
  unfold bc
  simp [padN_len]
theorem bc_right (b : M2.Bundle) : (bc b).toArray.extract 24 48 = ((padS b.held).map str).toArray := by
  apply Array.ext'
  unfold bc
  simp [padN_len]
  exact List.take_of_length_le (by simp [padS_len])
theorem eq98 (x y : M2.Bundle) (w : World) : (Op.equalIn 10000 159 (.agg (bc x).toArray) (.agg (bc y).toArray)).run Tryz.prog w = .ok (decide (padN x.tc = padN y.tc) && decide (padS x.held = padS y.held)) w := by
  obtain ⟨i3, hi3, -⟩ := info_parts Tryz.info3
  obtain ⟨i9, hi9, -⟩ := info_parts Tryz.info9
  rw [run_equalIn_struct w 9999 159 _ _ Tryz.fields98 Tryz.stood98, Tryz.fieldsList98]
  have q1 : (Op.equalIn 9999 156 (.agg ((padN x.tc).map nat).toArray) (.agg ((padN y.tc).map nat).toArray)).run Tryz.prog w = .ok (decide (padN x.tc = padN y.tc)) w := by
    rw [run_equalIn_array w 9998 _ _ Tryz.underlying156 hi3, Tryz.cells3, eqItems_gen Tryz.prog 9997 3 nat Tryz.plain3 (equal_nat 9997) _ _ w _ (fun i hi => by have := List.mem_range.1 hi; rw [padN_len, padN_len]; omega), all_eq_iff _ _ 24 (padN_len _) (padN_len _)]
  have q2 : (Op.equalIn 9999 157 (.agg ((padS x.held).map str).toArray) (.agg ((padS y.held).map str).toArray)).run Tryz.prog w = .ok (decide (padS x.held = padS y.held)) w := by
    rw [run_equalIn_array w 9998 _ _ Tryz.underlying157 hi9, Tryz.cells9, eqItems_gen Tryz.prog 9997 9 str Tryz.plain9 (equal_str 9997) _ _ w _ (fun i hi => by have := List.mem_range.1 hi; rw [padS_len, padS_len]; omega), all_eq_iff _ _ 24 (padS_len _) (padS_len _)]
  simp only [Op.eqFields, ne_eq, String.reduceEq, not_false_eq_true, if_true, Sem.run_bind, part95, bc_left, Result.andThen_ok, q1]
  clear q1
  cases decide (padN x.tc = padN y.tc)
  · simp
  · simp only [Bool.not_true, Bool.false_eq_true, if_false, Sem.run_bind, part96, bc_right, Result.andThen_ok, q2, Bool.true_and]
    clear q2
    cases decide (padS x.held = padS y.held) <;> simp
theorem Tryz.load159 {dst : Option Tmp} {x : Operand} {ty : TypeId} {pos : String} {after : Array Edge} {guard : Option (Nat × Bool)} {a : Act} {w : World} {K : Act → World → Prop} {Q : Exit → Act → World → Prop}
    (hx : a.eval x = .pointer (some ⟨pb (a.eval x), po (a.eval x), none⟩)) (hA : allAt w (pb (a.eval x)) (po (a.eval x)) 48 = true) :
    Oper.wp Tryz.prog { dst := dst, op := .load 159 x, type := ty, pos := pos, after := after, guard := guard } a w K Q = K (a.put dst (.agg (cellsAt w (pb (a.eval x)) (po (a.eval x)) 48).toArray)) w := wide_load Tryz.underlying159 rfl Tryz.size98 hx hA
theorem Tryz.build161 {dst : Option Tmp} {x : Operand} {ty : TypeId} {pos : String} {after : Array Edge} {guard : Option (Nat × Bool)} {a : Act} {w : World} {K : Act → World → Prop} {Q : Exit → Act → World → Prop}
    (hx : okAg 48 (a.eval x) = true) :
    Oper.wp Tryz.prog { dst := dst, op := .buildSlice 161 1 #[(0, x)], type := ty, pos := pos, after := after, guard := guard } a w K Q = K (a.put dst (.slice (some ⟨w.heap.size, 0, none⟩) 1 1)) (w.alloc (.cells (ag (a.eval x)) 159)) := by
  obtain ⟨i0, hinf, hz0, hz1, hz2⟩ := info_parts Tryz.info159
  exact wide_build Tryz.underlying161 hinf hz0 hz1 (by omega) (by omega) hx
theorem Tryz.store159 {dst : Option Tmp} {x y : Operand} {ty : TypeId} {pos : String} {after : Array Edge} {guard : Option (Nat × Bool)} {a : Act} {w : World} {K : Act → World → Prop} {Q : Exit → Act → World → Prop}
    (hx : a.eval x = .pointer (some ⟨pb (a.eval x), 0, none⟩)) (hy : okAg 48 (a.eval y) = true) (hr : isRowB w (pb (a.eval x)) 48 = true) :
    Oper.wp Tryz.prog { dst := dst, op := .store 159 x y, type := ty, pos := pos, after := after, guard := guard } a w K Q = K (a.put dst undef) (w.setRow (pb (a.eval x)) (ag (a.eval y))) := wide_store Tryz.size98 hx hy hr
theorem Tryz.alloc159 {dst : Option Tmp} {ty : TypeId} {pos : String} {after : Array Edge} {guard : Option (Nat × Bool)} {a : Act} {w : World} {K : Act → World → Prop} {Q : Exit → Act → World → Prop} :
    Oper.wp Tryz.prog { dst := dst, op := .alloc 159, type := ty, pos := pos, after := after, guard := guard } a w K Q = K (a.put dst (.pointer (some ⟨w.heap.size, 0, none⟩))) (w.alloc (.cells (bc M2.bundle0).toArray 159)) := wide_alloc (z := .agg (bc M2.bundle0).toArray) Tryz.zeroValue159
end Go.Proofs.YtmbapmbpnnaanabGreatDoor
namespace Go.Proofs.YtmbapmbpnnaanabGreatDoor.M3
open Go.Proofs.YtmbapmbpnnaanabGreatDoor.M2
def sameB (x y : Bundle) : Bool := decide (x.tc = y.tc) && decide (x.held = y.held)
def findB (bs : List Bundle) (b : Bundle) (i : Nat) : Nat :=
  match bs with
  | [] => i
  | x :: xs => if sameB x b then i else findB xs b (i + 1)
end Go.Proofs.YtmbapmbpnnaanabGreatDoor.M3
namespace Go.Proofs.YtmbapmbpnnaanabGreatDoor
open Go.RowKit
attribute [local go_sem ↓] Go.wp_at_zero Go.wp_at_succ Tryz.load159 Tryz.store159 Tryz.alloc159 Tryz.build161
attribute [local go_sem] pb_eq po_eq ag_eq cellsAt_drew allAt_drew isRow_new cells_new all_new cellsAt_alloc allAt_alloc setRow_new bc_len bc_size bc_ok isRow_bc

theorem sameB_iff (x y : M2.Bundle) : M3.sameB x y = true ↔ x = y := by
  unfold M3.sameB
  rw [Bool.and_eq_true, decide_eq_true_iff, decide_eq_true_iff]
  cases x; cases y
  simp
theorem findB_hit (h : M2.Bundle) : ∀ (hs : List M2.Bundle) (i j : Nat), j < hs.length → (∀ q, q < j → hs[q]? ≠ some h) → hs[j]? = some h → M3.findB hs h i = i + j
  | [], i, j, hj, _, _ => by simp at hj
  | x :: xs, i, 0, hj, _, he => by
    rw [M3.findB]
    simp at he
    rw [if_pos ((sameB_iff _ _).2 he)]; omega
  | x :: xs, i, j + 1, hj, hn, he => by
    rw [M3.findB]
    have h0 := hn 0 (by omega)
    simp at h0
    rw [if_neg (fun e => h0 ((sameB_iff _ _).1 e)), findB_hit h xs (i + 1) j (by simpa using hj) (fun q hq => by have := hn (q + 1) (by omega); simpa using this) (by simpa using he)]
    omega
theorem findB_miss (h : M2.Bundle) : ∀ (hs : List M2.Bundle) (i : Nat), (∀ q, q < hs.length → hs[q]? ≠ some h) → M3.findB hs h i = i + hs.length
  | [], i, _ => by simp [M3.findB]
  | x :: xs, i, hn => by
    rw [M3.findB]
    have h0 := hn 0 (by simp)
    simp at h0
    rw [if_neg (fun e => h0 ((sameB_iff _ _).1 e)), findB_miss h xs (i + 1) (fun q hq => by have := hn (q + 1) (by simp; omega); simpa using this)]
    simp; omega
theorem eq98' {x h : M2.Bundle} (hx : BOk x) (hh : BOk h) (w : World) : (Op.equalIn 10000 159 (.agg (bc x).toArray) (.agg (bc h).toArray)).run Tryz.prog w = .ok (M3.sameB x h) w := by
  rw [eq98, padN_id hx.t, padN_id hh.t, padS_id hx.h, padS_id hh.h]; rfl
theorem hz98 : (Value.agg (bc M2.bundle0).toArray).cells.size = 48 := rfl
set_option maxHeartbeats 2000000 in
set_option maxRecDepth 100000 in
theorem numberB_any (w : World) (b : Nat) (kh : Value) (hits : List M2.Bundle) (h : M2.Bundle) (hB : Blk w b [kh] 163) (hh : Row BuE w kh hits) (h6 : ∀ x ∈ hits, BOk x) (hl : BOk h) (hn0 : 0 < hits.length) (hn1 : hits.length ≤ 10000) :
    Calls Tryz.prog 63 #[.pointer (some ⟨b, 0, none⟩), .agg (bc h).toArray] w fun e w' => e = .returned (.int .i64 (M3.findB hits h 0 : Int)) ∧ ∃ kh', Blk w' b [kh'] 163 ∧ Row BuE w' kh' (if M3.findB hits h 0 = hits.length then hits ++ [h] else hits) ∧ Fresh w kh kh' ∧ Mod (fun k => k = b ∨ kh.ownBlock = some k) w w' := by
  obtain ⟨g, cap, rfl, hg, hcap⟩ := hh.form hn0
  obtain ⟨n, hn⟩ : ∃ n, n = hits.length := ⟨_, rfl⟩
  rw [← hn] at hh hcap hn0 hn1
  have HN : Hid (n = hits.length) := hn
  have H6 : Hid (∀ x ∈ hits, BOk x) := h6
  have HL : Hid (BOk h) := hl
  have HB : Hid (Blk w b [.slice (some ⟨g, 0, none⟩) n cap] 163) := by have := hB; rw [hn]; exact this
  have HH : Hid (Row BuE w (.slice (some ⟨g, 0, none⟩) n cap) hits) := hh
  have c2 := HB.out.cellA 0 rfl
  have hblt := HB.out.lt
  rw [← hn] at hB ⊢
  obtain ⟨F, hF⟩ : ∃ F, F = M3.findB hits h 0 := ⟨_, rfl⟩
  rw [← hF]
  obtain ⟨H2, hH2⟩ : ∃ H2, H2 = if F = n then hits ++ [h] else hits := ⟨_, rfl⟩
  rw [← hH2]
  have HF : Hid (F = M3.findB hits h 0 ∧ H2 = if F = n then hits ++ [h] else hits) := ⟨hF, hH2⟩
  clear hh h6 hl hB hn hF hH2
  go_enter Tryz.func63, Tryz.ntmps63
  go_wp2_with fail
  clear c2
  have HZ : Hid (∀ o, Mod No w (w.alloc o) ) := fun o => (Mod.refl _ _).alloc o
  have HZ2 : Hid (Blk (w.alloc (Obj.cells (bc h).toArray 159)) w.heap.size (bc h) 159) := heap_alloc_new w _
  go_loopg [12] n (fun gh v12 wr => ∃ i : Nat, v12 = .int .i64 (i : Int) ∧ i ≤ n ∧ gh = n - i ∧ Mod No w wr ∧ Blk wr w.heap.size (bc h) 159 ∧ ∀ q, q < i → hits[q]? ≠ some h)
  case atStart => exact ⟨0, rfl, by omega, rfl, HZ.out _, HZ2.out, fun q hq => by omega⟩
  case round =>
    obtain ⟨i, rfl, hin, hgh, hm, hX, hno⟩ := hrel
    have HM : Hid (Mod No w wr) := hm
    have HX : Hid (Blk wr w.heap.size (bc h) 159) := hX
    have HNO : Hid (∀ q, q < i → hits[q]? ≠ some h) := hno
    clear HZ HZ2
    by_cases hlt : i < n
    · obtain ⟨x, hx⟩ : ∃ x, hits[i]? = some x := ⟨hits[i]'(by have := HN.out; omega), List.getElem?_eq_getElem _⟩
      have hrow := HH.out.no hm
      have hr1 : wr.rangeAt g (i * 48) (bc x) := hrow.range hx
      have hX2 := hX
      have hi1 : (i : Int) < (n : Int) := by omega
      have heq := eq98' (H6.out x (List.mem_of_getElem? hx)) HL.out
      have HXI : Hid (hits[i]? = some x) := hx
      have hnw : w.heap.size ≠ wr.heap.size := by have := hX.lt; omega
      have hr2 : wr.rangeAt w.heap.size 0 (bc h) := hX2.range
      have q1 := cellsAt_of hr1
      have q2 := cellsAt_of hr2
      rw [bc_len] at q1 q2
      obtain ⟨q1, q3⟩ := q1
      obtain ⟨q2, q4⟩ := q2
      clear hm hX hno hrow hx hr1 hr2 hX2
      by_cases hxh : x = h
      · subst hxh
        have hde : M3.sameB x x = true := (sameB_iff _ _).2 rfl
        have HFI : Hid (F = i ∧ H2 = hits) := by
          have e : F = i := by rw [HF.out.1, findB_hit x hits 0 i (by have := HN.out; omega) HNO.out HXI.out]; omega
          exact ⟨e, by rw [HF.out.2, if_neg (by omega)]⟩
        rw [hde] at heq
        go_wp2
        go_ret
        exact ⟨by rw [HFI.out.1]; rfl, _, (HB.out.mod HM.out (fun x => x)).alloc _, by rw [HFI.out.2]; exact (HH.out.no HM.out).alloc _, Fresh.refl _ _, (HM.out.more (fun _ _ x => x.elim)).alloc _⟩
      · have hde : M3.sameB x h = false := by cases hq : M3.sameB x h with
          | true => exact absurd ((sameB_iff _ _).1 hq) hxh
          | false => rfl
        rw [hde] at heq
        go_wp2
        go_roundg (n - (i + 1))
        case measure => omega
        case rel => exact ⟨i + 1, by go_num, by omega, rfl, HM.out.alloc _, HX.out.alloc _, fun q hq e => by
          by_cases hqi : q < i
          · exact HNO.out q hqi e
          · have : q = i := by omega
            rw [this, HXI.out] at e
            exact hxh (Option.some.inj e)⟩
    · obtain rfl : i = n := by omega
      have HFI : Hid (F = i ∧ H2 = hits ++ [h]) := by
        have e : F = i := by rw [HF.out.1, findB_miss h hits 0 (fun q hq => HNO.out q (by have := HN.out; omega))]; have := HN.out; omega
        exact ⟨e, by rw [HF.out.2, if_pos e]⟩
      obtain ⟨i0, hinf, hz0, hz1, hz2⟩ := info_parts Tryz.info159
      have hB1 := HB.out.mod hm (fun x => x)
      have hH1 := HH.out.no hm
      have q2 := cellsAt_of hX.range
      rw [bc_len] at q2
      obtain ⟨q2, q4⟩ := q2
      have d2 := hB1.cell 0 rfl
      have K2 := hB1.cellA 0 rfl
      have F2 := hB1.freeA 0
      have hown : wr.ownsRow 0 159 48 (.slice (some ⟨g, 0, none⟩) i cap) i (hits.flatMap BuE.f) := by have := hH1; unfold Row at this; rw [← HN.out] at this; exact this
      have hb1 := hB1.lt
      have hbg : some b ≠ (Value.slice (some ⟨g, 0, none⟩) i cap).ownBlock := fun e => hB1.apart hH1 (by decide) e.symm
      have hX1 := hX.lt
      clear hm hX hno
      go_wp2_with fail
      go_region_law (refine step_append_lies _ (by rfl) _ _ _ (by rfl) 0 159 i0 _ 48 576 Tryz.underlying161 hinf hz0 hz1 hz2 hz98 (by omega) (.slice (some ⟨g, 0, none⟩) i cap) i (hits.flatMap BuE.f) (by rfl) ((hown.alloc _).drew) ⟨wr.heap.size, 0, none⟩ 1 1 (bc h) (by rfl) (by rw [bc_len]) (World.news_of_block (cs := (bc h).toArray) (t := 159) (fr := (0, 0)) (heap_alloc_new wr _)) (bc_one h) (by omega) (by unfold maxLen; omega) (by omega) (by simp) (wr.heap.size + 1) (by simp) ?_; intro gg cap2 w7 hown7 hgrow hat hltt; have s0 := (hgrow.cell_far ⟨b, 0, none⟩ (by simp; omega) hbg).trans (K2 _); have s1 := (hgrow.frozen_far ⟨b, 0, none⟩ (by simp; omega) hbg).trans (F2 _))
      all_goals
        have hB7 : Blk w7 b [.slice (some ⟨g, 0, none⟩) i cap] 163 := ((hB1.alloc _).drew).grown hgrow hbg
        have hr7 : Row BuE w7 (.slice (some ⟨gg, 0, none⟩) (i + 1) cap2) (hits ++ [h]) := by
          refine Row.snoc ?_
          rw [← HN.out]
          exact hown7
        have hf7 : Fresh w (.slice (some ⟨g, 0, none⟩) i cap) (.slice (some ⟨gg, 0, none⟩) (i + 1) cap2) := by
          intro g1 hg1
          cases hg1
          rcases hat with h | h
          · exact Or.inl h
          · exact Or.inr (by have := HM.out.size; show w.heap.size ≤ gg; omega)
        have hm7 : Mod (fun k => k = b ∨ (Value.slice (some ⟨g, 0, none⟩) i cap).ownBlock = some k) w w7 := (((HM.out.more (fun _ _ x => x.elim)).alloc _).drew).grown hgrow (fun g1 hg1 _ => Or.inr hg1)
        have HR : Hid (Blk (w7.setCell ⟨b, 0, none⟩ (.slice (some ⟨gg, 0, none⟩) (i + 1) cap2)) b [.slice (some ⟨gg, 0, none⟩) (i + 1) cap2] 163 ∧ Row BuE (w7.setCell ⟨b, 0, none⟩ (.slice (some ⟨gg, 0, none⟩) (i + 1) cap2)) (.slice (some ⟨gg, 0, none⟩) (i + 1) cap2) (hits ++ [h]) ∧ Fresh w (.slice (some ⟨g, 0, none⟩) i cap) (.slice (some ⟨gg, 0, none⟩) (i + 1) cap2) ∧ Mod (fun k => k = b ∨ (Value.slice (some ⟨g, 0, none⟩) i cap).ownBlock = some k) w (w7.setCell ⟨b, 0, none⟩ (.slice (some ⟨gg, 0, none⟩) (i + 1) cap2))) :=
          ⟨hB7.set 0 _, hr7.other (a := ⟨b, 0, none⟩) (hB7.apart hr7 (by decide)) _, hf7, hm7.setCell (a := ⟨b, 0, none⟩) (fun _ => Or.inl rfl) _⟩
        have z2 := HR.out.1.cell 0 rfl
        clear hB7 hr7 hf7 hm7 hown7 hgrow hat hltt s0 s1 hown hB1 hH1 d2 K2 F2 q2 q4 hinf hz0 hz1 hz2
        go_wp2
        go_ret
        exact ⟨by rw [HFI.out.1]; exact wrap_ret (by omega), _, HR.out.1, by rw [HFI.out.2]; exact HR.out.2.1, HR.out.2.2.1, HR.out.2.2.2⟩
end Go.Proofs.YtmbapmbpnnaanabGreatDoor
