import Derived.Test.YtmbapmbpnnaanabGreatDoorMK
namespace Go.Proofs.YtmbapmbpnnaanabGreatDoor
open Go.RowKit
attribute [local go_sem ↓] Go.wp_at_zero Go.wp_at_succ

theorem ap_set {a : List (List Bool)} {i j : Nat} (h4 : a.length = 4) (hq : ∀ q ∈ a, q.length = 4) (hi : i < 4) (hj : j < 4) : ApE.f (a.modify i (fun q => q.set j true)) = (ApE.f a).set (i * 4 + j) (.bool true) := by
  match a, h4 with
  | [p, q, r, s], _ =>
    have hp := hq p (by simp)
    have hq' := hq q (by simp)
    have hr := hq r (by simp)
    have hs := hq s (by simp)
    match p, hp, q, hq', r, hr, s, hs with
    | [p0, p1, p2, p3], _, [q0, q1, q2, q3], _, [r0, r1, r2, r3], _, [s0, s1, s2, s3], _ =>
      match i, hi, j, hj with
      | 0, _, 0, _ => rfl
      | 0, _, 1, _ => rfl
      | 0, _, 2, _ => rfl
      | 0, _, 3, _ => rfl
      | 1, _, 0, _ => rfl
      | 1, _, 1, _ => rfl
      | 1, _, 2, _ => rfl
      | 1, _, 3, _ => rfl
      | 2, _, 0, _ => rfl
      | 2, _, 1, _ => rfl
      | 2, _, 2, _ => rfl
      | 2, _, 3, _ => rfl
      | 3, _, 0, _ => rfl
      | 3, _, 1, _ => rfl
      | 3, _, 2, _ => rfl
      | 3, _, 3, _ => rfl
theorem mem_modify {α : Type} {l : List α} {i : Nat} {f : α → α} {x : α} (h : x ∈ l.modify i f) : x ∈ l ∨ ∃ y ∈ l, x = f y := by
  obtain ⟨q, hq⟩ := List.mem_iff_getElem?.1 h
  rw [List.getElem?_modify] at hq
  cases hs : l[q]? with
  | none => rw [hs] at hq; simp at hq
  | some r0 =>
    rw [hs] at hq
    by_cases hi : i = q
    · simp [hi] at hq; exact Or.inr ⟨r0, List.mem_of_getElem? hs, hq.symm⟩
    · simp [hi] at hq; exact Or.inl (by rw [← hq]; exact List.mem_of_getElem? hs)
theorem AOk.set {a : M2.Apart} {n i j k : Nat} (h : AOk a n) : AOk (M2.set3 a i j k) n := by
  unfold M2.set3
  refine ⟨by rw [List.length_modify]; exact h.len, fun r hr => ?_⟩
  rcases mem_modify hr with h1 | ⟨y, h1, rfl⟩
  · exact h.four r h1
  · have h2 := h.four y h1
    refine ⟨by rw [List.length_modify]; exact h2.1, fun q hq => ?_⟩
    rcases mem_modify hq with h3 | ⟨z, h3, rfl⟩
    · exact h2.2 q h3
    · rw [List.length_set]; exact h2.2 z h3
theorem set3_eq {a : M2.Apart} {i j k : Nat} {r : List (List Bool)} (h : a[i]? = some r) : M2.set3 a i j k = a.set i (r.modify j (fun q => q.set k true)) := by
  unfold M2.set3
  apply List.ext_getElem?
  intro q
  rw [List.getElem?_modify, List.getElem?_set]
  by_cases hi : i = q
  · subst hi
    obtain ⟨h1, h2⟩ := List.getElem?_eq_some_iff.1 h
    simp [h1, h2]
  · simp [hi]
theorem OL.tell {v : M2.View} {su : M2.Sure} {ap : M2.Apart} {base O : Nat} {ka kw kh kd vs : Value} {w : World} {ga n cap : Nat} (h : OL v su ap base O ka kw kh kd vs (.slice (some ⟨ga, 0, none⟩) n cap) w) {N : Nat} (hs : AOk ap N) {k i j : Nat} (hk : k < N) (hi : i < 4) (hj : j < 4) :
    OL v su (M2.set3 ap k i j) base O ka kw kh kd vs (.slice (some ⟨ga, 0, none⟩) n cap) (w.setCell ⟨ga, k * 16 + i * 4 + j, none⟩ (.bool true)) := by
  have hk2 : k < ap.length := by rw [hs.len]; exact hk
  have h1 : ap[k]? = some ap[k] := List.getElem?_eq_getElem hk2
  have h4 := hs.four ap[k] (List.getElem_mem hk2)
  have hm : Mod (fun q => q = ga) w (w.setCell ⟨ga, k * 16 + i * 4 + j, none⟩ (.bool true)) := (Mod.refl (fun q => q = ga) w).setCell (a := ⟨ga, k * 16 + i * 4 + j, none⟩) (fun _ => rfl) _
  have key : ∀ {α : Type} {E : Enc α} {v : Value} {xs : List α}, Row E w v xs → E.T ≠ 254 → Row E (w.setCell ⟨ga, k * 16 + i * 4 + j, none⟩ (.bool true)) v xs := fun hr ht => hr.mod hm (fun g hg e => hr.apart h.ap ht hg (by rw [e]; rfl))
  have hv := h.vp
  refine ⟨h.blk.mod hm (fun e => h.blk.apart h.ap (by decide) (by rw [e]; rfl)), ⟨hv.ok, hv.kok, hv.n24, hv.nh, key hv.ah (by decide), key hv.wo (by decide), key hv.hi (by decide), key hv.de (by decide), hv.fa, hv.fw, hv.fh, hv.fd⟩, key h.su (by decide), ?_⟩
  rw [set3_eq h1, Nat.add_assoc]
  exact h.ap.put k (i * 4 + j) h1 (by show i * 4 + j < 16; omega) (ap_set h4.1 h4.2 hi hj)
theorem tellX_step {v : M2.View} {su : M2.Sure} {kind l next n x : Nat} {a : M2.Apart} {g : Bool} {R : Bool × M2.Apart} (h : M2.tellX v su kind l next (n + 1) x a g = some R) :
    ∃ sx g1 a1, M2.estep v su kind x l next = some sx ∧ M2.tellY v su kind l next x sx 4 0 a g = some (g1, a1) ∧ M2.tellX v su kind l next n (x + 1) a1 g1 = some R := by
  rw [M2.tellX] at h
  split at h
  · cases h
  · rename_i sx hsx
    split at h
    · cases h
    · rename_i g1 a1 hy
      exact ⟨sx, g1, a1, hsx, hy, h⟩
theorem tellY_step {v : M2.View} {su : M2.Sure} {kind l next x n y : Nat} {sx : List UInt8 × Nat} {a : M2.Apart} {g : Bool} {R : Bool × M2.Apart} (h : M2.tellY v su kind l next x sx (n + 1) y a g = some R) :
    ∃ sy d, M2.estep v su kind y l next = some sy ∧ (if sx.1 = sy.1 then M2.get3 a next sx.2 sy.2 else some true) = some d ∧ ((d = false ∧ M2.tellY v su kind l next x sx n (y + 1) a g = some R) ∨ (d = true ∧ ∃ c, M2.get3 a kind x y = some c ∧ ((c = true ∧ M2.tellY v su kind l next x sx n (y + 1) a g = some R) ∨ (c = false ∧ M2.tellY v su kind l next x sx n (y + 1) (M2.set3 a kind x y) true = some R)))) := by
  rw [M2.tellY] at h
  split at h
  · cases h
  · rename_i sy hsy
    split at h
    · cases h
    · rename_i d hd
      refine ⟨sy, d, hsy, hd, ?_⟩
      cases d with
      | false => exact Or.inl ⟨rfl, by simpa using h⟩
      | true =>
        refine Or.inr ⟨rfl, ?_⟩
        cases hc : M2.get3 a kind x y with
        | none => rw [hc] at h; simp at h
        | some c =>
          refine ⟨c, rfl, ?_⟩
          cases c with
          | true => exact Or.inl ⟨rfl, by rw [hc] at h; simpa using h⟩
          | false => exact Or.inr ⟨rfl, by rw [hc] at h; simpa using h⟩
theorem estep_lt {v : M2.View} {su : M2.Sure} {kind tc l next : Nat} {r : List UInt8 × Nat} (hv : VOk v) (ht : tc < 4) (h : M2.estep v su kind tc l next = some r) : r.2 < 4 := by
  have := vstep_lt v hv kind tc l ht
  unfold M2.estep at h
  dsimp only at h
  split at h
  · split at h
    · have := Option.some.inj h; rw [← this]; assumption
    · have := Option.some.inj h; rw [← this]; assumption
  · cases h

set_option maxHeartbeats 1600000 in
set_option maxRecDepth 100000 in
theorem tell_any (w : World) (v : M2.View) (su : M2.Sure) (ap : M2.Apart) (base O : Nat) (ka kw kh kd vs : Value) (ga n cap : Nat) (hO : OL v su ap base O ka kw kh kd vs (.slice (some ⟨ga, 0, none⟩) n cap) w) (hn : n = v.k.ahead.length) (hs : SOk su n) (ha : AOk ap n) (kind l next : Nat) (hk : kind < n) (hx : next < n) (hl : l < 4) {b' : Bool} {ap' : M2.Apart} (hM : M2.tellX v su kind l next 4 0 ap false = some (b', ap')) :
    Calls Tryz.prog 129 #[.pointer (some ⟨O, 0, none⟩), .int .i64 (kind : Int), .int .i64 (l : Int), .int .i64 (next : Int)] w fun e w' => e = .returned (.bool b') ∧ OL v su ap' base O ka kw kh kd vs (.slice (some ⟨ga, 0, none⟩) n cap) w' ∧ AOk ap' n ∧ Mod (fun q => q = ga) w w' := by
  have H50 : Hid (∀ (wx : World) (a : M2.Apart) (tc : Nat) (r : List UInt8 × Nat), OL v su a base O ka kw kh kd vs (.slice (some ⟨ga, 0, none⟩) n cap) wx → tc < 4 → M2.estep v su kind tc l next = some r → Calls Tryz.prog 96 #[.pointer (some ⟨O, 0, none⟩), .int .i64 (kind : Int), .int .i64 (tc : Int), .int .i64 (l : Int), .int .i64 (next : Int)] wx fun e w' => e = .returned (.tuple #[.string ⟨r.1.toArray⟩, .int .i64 (r.2 : Int)]) ∧ Mod No wx w') := fun wx a tc r hOx ht hM => estep_any wx v su a base O ka kw kh kd vs _ hOx (by rw [← hn]; exact hs) kind tc l next (by omega) ht hl hM
  have HV : Hid (VOk v) := hO.vp.ok
  have hn24 : n ≤ 24 := by rw [hn]; exact hO.vp.n24
  have HO : Hid (OL v su ap base O ka kw kh kd vs (.slice (some ⟨ga, 0, none⟩) n cap) w) := hO
  have HA : Hid (AOk ap n) := ha
  have HM : Hid (M2.tellX v su kind l next 4 0 ap false = some (b', ap')) := hM
  have hki : (kind : Int) < (n : Int) := by omega
  have hxi : (next : Int) < (n : Int) := by omega
  clear hO hs ha hM hn
  go_enter Tryz.func129, Tryz.ntmps129
  go_wp2_with fail
  go_loopg [9, 10] 4 (fun gh v9 v10 wr => ∃ (x : Nat) (b : Bool) (a : M2.Apart), x ≤ 4 ∧ gh = 4 - x ∧ v10 = .int .i64 (x : Int) ∧ v9 = .bool b ∧ M2.tellX v su kind l next gh x a b = some (b', ap') ∧ AOk a n ∧ OL v su a base O ka kw kh kd vs (.slice (some ⟨ga, 0, none⟩) n cap) wr ∧ Mod (fun q => q = ga) w wr)
  case atStart => exact ⟨0, false, ap, by omega, rfl, rfl, rfl, HM.out, HA.out, HO.out, Mod.refl _ _⟩
  case round =>
    obtain ⟨x, b, a, hx4, hgk, rfl, rfl, hgo, hak, hI, hm⟩ := hrel
    have HI : Hid (OL v su a base O ka kw kh kd vs (.slice (some ⟨ga, 0, none⟩) n cap) wr) := hI
    have HMD : Hid (Mod (fun q => q = ga) w wr) := hm
    have HAK : Hid (AOk a n) := hak
    clear HM HO HA
    match gk, hgk, hgo with
    | 0, hgk, hgo =>
      obtain rfl : x = 4 := by omega
      have HB : Hid (b = b' ∧ a = ap') := by
        have h : some (b, a) = some (b', ap') := hgo
        cases h; exact ⟨rfl, rfl⟩
      have h44 : ¬ ((4 : Nat) : Int) < 4 := by omega
      clear hgo hI hm hak hgk hx4 H50
      go_wp2
      go_ret
      exact ⟨by rw [← HB.out.1]; rfl, by rw [← HB.out.2]; exact HI.out, by rw [← HB.out.2]; exact HAK.out, HMD.out⟩
    | g + 1, hgk, hgo =>
      have hx : x < 4 := by omega
      obtain ⟨sx, g1, a1, hsx, hY, hX⟩ := tellX_step hgo
      have h50 := H50.out wr a x sx hI hx hsx
      have hsl := estep_lt HV.out hx hsx
      obtain ⟨SX, hSX⟩ : ∃ S, S = (⟨sx.1.toArray⟩ : ByteArray) := ⟨_, rfl⟩
      have HSX : Hid (SX = (⟨sx.1.toArray⟩ : ByteArray)) := hSX
      rw [← hSX] at h50
      have HYY : Hid (M2.tellY v su kind l next x sx 4 0 a b = some (g1, a1)) := hY
      have HXX : Hid (M2.tellX v su kind l next g (x + 1) a1 g1 = some (b', ap')) := hX
      have hxi4 : (x : Int) < 4 := by omega
      clear hI hm hak hgo hY hX hsx hSX
      go_wp2_with fail
      refine h50.mono ?_
      rintro e w1 ⟨rfl, m1⟩
      have HI1 : Hid (OL v su a base O ka kw kh kd vs (.slice (some ⟨ga, 0, none⟩) n cap) w1 ∧ Mod (fun q => q = ga) w w1) := ⟨HI.out.no m1, HMD.out.no m1⟩
      clear h50 m1 HI HMD
      go_wp2_with fail
      go_loopg [9, 13] 4 (fun gh v9 v13 wr => ∃ (y : Nat) (b : Bool) (a : M2.Apart), y ≤ 4 ∧ gh = 4 - y ∧ v13 = .int .i64 (y : Int) ∧ v9 = .bool b ∧ M2.tellY v su kind l next x sx gh y a b = some (g1, a1) ∧ AOk a n ∧ OL v su a base O ka kw kh kd vs (.slice (some ⟨ga, 0, none⟩) n cap) wr ∧ Mod (fun q => q = ga) w wr)
      case atStart => exact ⟨0, b, a, by omega, rfl, rfl, rfl, HYY.out, HAK.out, HI1.out.1, HI1.out.2⟩
      case round =>
        clear HI1 HAK HYY
        obtain ⟨y, b, a, hy4, hgk, rfl, rfl, hgo, hak, hI, hm⟩ := hrel
        have HI : Hid (OL v su a base O ka kw kh kd vs (.slice (some ⟨ga, 0, none⟩) n cap) wr) := hI
        have HMD : Hid (Mod (fun q => q = ga) w wr) := hm
        have HAK : Hid (AOk a n) := hak
        match gk, hgk, hgo with
        | 0, hgk, hgo =>
          obtain rfl : y = 4 := by omega
          have HB : Hid (b = g1 ∧ a = a1) := by
            have h : some (b, a) = some (g1, a1) := hgo
            cases h; exact ⟨rfl, rfl⟩
          have h44 : ¬ ((4 : Nat) : Int) < 4 := by omega
          clear hgo hI hm hak hgk hy4 H50
          go_wp2
          go_roundg g
          case measure => omega
          case rel => exact ⟨x + 1, g1, a1, by omega, by omega, by go_num, by rw [HB.out.1], HXX.out, by rw [← HB.out.2]; exact HAK.out, by rw [← HB.out.2]; exact HI.out, HMD.out⟩
        | g' + 1, hgk, hgo =>
          have hy : y < 4 := by omega
          obtain ⟨sy, d, hsy, hd, hcase⟩ := tellY_step hgo
          have h50 := H50.out wr a y sy hI hy hsy
          have hyl := estep_lt HV.out hy hsy
          obtain ⟨SY, hSY⟩ : ∃ S, S = (⟨sy.1.toArray⟩ : ByteArray) := ⟨_, rfl⟩
          rw [← hSY] at h50
          have HSS : Hid (SX = SY ↔ sx.1 = sy.1) := by
            show SX = SY ↔ sx.1 = sy.1
            rw [HSX.out, hSY]
            constructor
            · intro h
              injection h with h
              have := congrArg Array.toList h
              simpa using this
            · intro h; rw [h]
          have hyi4 : (y : Int) < 4 := by omega
          have hsli : (sx.2 : Int) < 4 := by omega
          have hsyi : (sy.2 : Int) < 4 := by omega
          have HD : Hid ((if sx.1 = sy.1 then M2.get3 a next sx.2 sy.2 else some true) = some d) := hd
          have HCASE : Hid ((d = false ∧ M2.tellY v su kind l next x sx g' (y + 1) a b = some (g1, a1)) ∨ (d = true ∧ ∃ c, M2.get3 a kind x y = some c ∧ ((c = true ∧ M2.tellY v su kind l next x sx g' (y + 1) a b = some (g1, a1)) ∨ (c = false ∧ M2.tellY v su kind l next x sx g' (y + 1) (M2.set3 a kind x y) true = some (g1, a1))))) := hcase
          clear hI hm hak hgo hsy hd hcase hSY
          go_wp2_with fail
          refine h50.mono ?_
          rintro e w1 ⟨rfl, m1⟩
          have HI1 : Hid (OL v su a base O ka kw kh kd vs (.slice (some ⟨ga, 0, none⟩) n cap) w1 ∧ Mod (fun q => q = ga) w w1) := ⟨HI.out.no m1, HMD.out.no m1⟩
          clear h50 m1 HI HMD
          have o5 := HI1.out.1.blk.cell 5 rfl
          generalize sx.2 = LX at *
          generalize sy.2 = LY at *
          have hsplit : (SX = SY ∧ M2.get3 a next LX LY = some d) ∨ (¬ SX = SY ∧ d = true) := by
            by_cases hse : SX = SY
            · refine Or.inl ⟨hse, ?_⟩
              have h := HD.out
              rw [if_pos (HSS.out.1 hse)] at h
              exact h
            · refine Or.inr ⟨hse, ?_⟩
              have h := HD.out
              rw [if_neg (fun e => hse (HSS.out.2 e))] at h
              exact (Option.some.inj h).symm
          clear HD
          have hxi' : (LX : Int) < 4 := by omega
          have hyi' : (LY : Int) < 4 := by omega
          rcases HCASE.out with ⟨rfl, hnx⟩ | ⟨rfl, c, hc, hcase⟩
          · have HN : Hid (M2.tellY v su kind l next x sx g' (y + 1) a b = some (g1, a1)) := hnx
            rcases hsplit with ⟨rfl, hd⟩ | ⟨hse, hd⟩
            · have cd := apart_cell HI1.out.1.ap hsl hyl hd
              clear HCASE hnx hd HSS
              go_wp2
              go_roundg g'
              case measure => omega
              case rel => exact ⟨y + 1, b, a, by omega, by omega, by go_num, rfl, HN.out, HAK.out, HI1.out.1, HI1.out.2⟩
            · cases hd
          · have cc := apart_cell HI1.out.1.ap hx hy hc
            have fc := HI1.out.1.ap.free (kind * 16 + x * 4 + y)
            rcases hcase with ⟨rfl, hnx⟩ | ⟨rfl, hnx⟩
            · have HN : Hid (M2.tellY v su kind l next x sx g' (y + 1) a b = some (g1, a1)) := hnx
              rcases hsplit with ⟨rfl, hd⟩ | ⟨hse, hd⟩
              · have cd := apart_cell HI1.out.1.ap hsl hyl hd
                clear HCASE hnx hd HSS hc
                go_wp2
                go_roundg g'
                case measure => omega
                case rel => exact ⟨y + 1, b, a, by omega, by omega, by go_num, rfl, HN.out, HAK.out, HI1.out.1, HI1.out.2⟩
              · have hse3 : ¬ SX.toList = SY.toList := fun e => hse (ext_data (by rw [← toList_data, ← toList_data]; exact e))
                have hse2 : (SX.toList == SY.toList) = false := by rw [beq_eq_false_iff_ne]; exact hse3
                have hse4 : (SX.toList != SY.toList) = true := by rw [bne, hse2]; rfl
                clear HCASE hnx hd HSS hc
                go_wp2
                go_roundg g'
                case measure => omega
                case rel => exact ⟨y + 1, b, a, by omega, by omega, by go_num, rfl, HN.out, HAK.out, HI1.out.1, HI1.out.2⟩
            · have HN : Hid (M2.tellY v su kind l next x sx g' (y + 1) (M2.set3 a kind x y) true = some (g1, a1)) := hnx
              have HI2 : Hid (OL v su (M2.set3 a kind x y) base O ka kw kh kd vs (.slice (some ⟨ga, 0, none⟩) n cap) (w1.setCell ⟨ga, kind * 16 + x * 4 + y, none⟩ (.bool true)) ∧ Mod (fun q => q = ga) w (w1.setCell ⟨ga, kind * 16 + x * 4 + y, none⟩ (.bool true))) := ⟨HI1.out.1.tell HAK.out hk hx hy, HI1.out.2.setCell (a := ⟨ga, kind * 16 + x * 4 + y, none⟩) (fun _ => rfl) _⟩
              rcases hsplit with ⟨rfl, hd⟩ | ⟨hse, hd⟩
              · have cd := apart_cell HI1.out.1.ap hsl hyl hd
                clear HCASE hnx hd HSS hc
                go_wp2
                go_roundg g'
                case measure => omega
                case rel => exact ⟨y + 1, true, _, by omega, by omega, by go_num, rfl, HN.out, HAK.out.set, HI2.out.1, HI2.out.2⟩
              · have hse3 : ¬ SX.toList = SY.toList := fun e => hse (ext_data (by rw [← toList_data, ← toList_data]; exact e))
                have hse2 : (SX.toList == SY.toList) = false := by rw [beq_eq_false_iff_ne]; exact hse3
                have hse4 : (SX.toList != SY.toList) = true := by rw [bne, hse2]; rfl
                clear HCASE hnx hd HSS hc
                go_wp2
                go_roundg g'
                case measure => omega
                case rel => exact ⟨y + 1, true, _, by omega, by omega, by go_num, rfl, HN.out, HAK.out.set, HI2.out.1, HI2.out.2⟩
end Go.Proofs.YtmbapmbpnnaanabGreatDoor
namespace Go.Proofs.YtmbapmbpnnaanabGreatDoor
open Go.RowKit
attribute [local go_sem ↓] Go.wp_at_zero Go.wp_at_succ

theorem runGo_small (v : M2.View) (hv : VOk v) : ∀ (cs : List UInt8) (ks : List Nat) (acc : List UInt8) (tc : Nat), tc ≤ 4 → (M2.runGo v cs ks acc tc).1.length ≤ acc.length + 4 * cs.length
  | [], ks, acc, tc, _ => by simp [M2.runGo]
  | c :: cs, [], acc, tc, _ => by simp [M2.runGo]
  | c :: cs, k :: ks, acc, tc, ht => by
    rw [runGo_step]
    have h := vstep_small v hv k tc (Mir.num c) ht
    have := runGo_small v hv cs ks (acc ++ (M2.vstep v k tc (Mir.num c)).1) _ h.2
    rw [List.length_append] at this
    rw [List.length_cons]
    omega
theorem vrun_small {v : M2.View} (hv : VOk v) {w : List UInt8} {b tc : Nat} {r : List UInt8 × Nat} (ht : tc ≤ 4) (h : M2.vrun v w b tc = some r) : r.1.length ≤ 4 * w.length := by
  unfold M2.vrun at h
  split at h
  · have := Option.some.inj h; rw [← this]; simp
  · split at h
    · cases h
    · rename_i ks kb hk
      have := Option.some.inj h
      rw [← this]
      have := runGo_small v hv w ks [] tc ht
      simpa using this
def rowAt (xs : List (List UInt8)) (j : Nat) : List (List UInt8) := xs.take j ++ List.replicate (4 - j) []
theorem sure0_step {v : M2.View} {ws : List (List UInt8)} {i : Nat} {w : List UInt8} {R : M2.Sure} (hw : ws[i]? = some w) (h : M2.sure0 v (ws.drop i) = some R) : ∃ x R2, M2.sureOf v w = some x ∧ M2.sure0 v (ws.drop (i + 1)) = some R2 ∧ R = x :: R2 := by
  obtain ⟨h1, h2⟩ := List.getElem?_eq_some_iff.1 hw
  rw [List.drop_eq_getElem_cons h1, h2, M2.sure0] at h
  split at h
  · cases h
  · rename_i x hx
    cases hq : M2.sure0 v (ws.drop (i + 1)) with
    | none => rw [hq] at h; cases h
    | some R2 => rw [hq] at h; exact ⟨x, R2, hx, rfl, (Option.some.inj h).symm⟩
theorem sureOf_spec {v : M2.View} {w : List UInt8} {x : List (List UInt8)} (h : M2.sureOf v w = some x) : x.length = 4 ∧ ∀ j, j < 4 → ∃ r, M2.vrun v w 0 j = some r ∧ x[j]? = some r.1 := by
  unfold M2.sureOf at h
  split at h
  · rename_i a b c d ha hb hc hd
    have h := Option.some.inj h
    rw [← h]
    refine ⟨rfl, fun j hj => ?_⟩
    match j, hj with
    | 0, _ => exact ⟨a, ha, rfl⟩
    | 1, _ => exact ⟨b, hb, rfl⟩
    | 2, _ => exact ⟨c, hc, rfl⟩
    | 3, _ => exact ⟨d, hd, rfl⟩
  · cases h
theorem rowAt_set {xs : List (List UInt8)} {j : Nat} {x : List UInt8} (h4 : xs.length = 4) (hj : j < 4) (hx : xs[j]? = some x) : (rowAt xs j).set j x = rowAt xs (j + 1) := by
  match xs, h4 with
  | [a, b, c, d], _ =>
    match j, hj, hx with
    | 0, _, hx => cases hx; rfl
    | 1, _, hx => cases hx; rfl
    | 2, _, hx => cases hx; rfl
    | 3, _, hx => cases hx; rfl
theorem rowAt_len {xs : List (List UInt8)} {j : Nat} (h4 : xs.length = 4) (hj : j ≤ 4) : (rowAt xs j).length = 4 := by
  unfold rowAt; simp; omega
theorem rowAt_full {xs : List (List UInt8)} (h4 : xs.length = 4) : rowAt xs 4 = xs := by
  unfold rowAt; rw [List.take_of_length_le (by omega)]; simp
theorem OL.grow {v : M2.View} {su : M2.Sure} {ap : M2.Apart} {base O : Nat} {ka kw kh kd vs va : Value} {w w7 : World} (h : OL v su ap base O ka kw kh kd vs va w) {v2 : Value} {s2 : M2.Sure} (hg : w.grownBy w7 vs.ownBlock) (hrow : Row SuE w7 v2 s2) : OL v s2 ap base O ka kw kh kd v2 va (w7.setCell ⟨O, 4, none⟩ v2) := by
  have hB : Blk w7 O [ka, kw, kh, kd, vs, va] 154 := h.blk.grown hg (fun e => h.blk.apart h.su (by decide) e.symm)
  have key : ∀ {α : Type} {E : Enc α} {v : Value} {xs : List α}, Row E w v xs → E.T ≠ 105 → E.T ≠ 154 → Row E (w7.setCell ⟨O, 4, none⟩ v2) v xs := fun hr ht ht2 => (hr.grown hg (hr.far h.su ht)).other (a := ⟨O, 4, none⟩) (hB.apart (hr.grown hg (hr.far h.su ht)) (fun e => ht2 e.symm)) _
  have hv := h.vp
  exact ⟨hB.set 4 v2, ⟨hv.ok, hv.kok, hv.n24, hv.nh, key hv.ah (by decide) (by decide), key hv.wo (by decide) (by decide), key hv.hi (by decide) (by decide), key hv.de (by decide) (by decide), hv.fa, hv.fw, hv.fh, hv.fd⟩, hrow.other (a := ⟨O, 4, none⟩) (hB.apart hrow (by decide)) _, key h.ap (by decide) (by decide)⟩
theorem cutAll_step {v : M2.View} {f : Nat} {s R : M2.Sure} (h : M2.cutAll v (f + 1) s = some R) : ∃ b s2, M2.cutK v v.k.ahead 0 s false = some (b, s2) ∧ ((b = true ∧ M2.cutAll v f s2 = some R) ∨ (b = false ∧ s2 = R)) := by
  rw [M2.cutAll] at h
  split at h
  · cases h
  · rename_i b s2 hc
    refine ⟨b, s2, hc, ?_⟩
    cases b with
    | true => exact Or.inl ⟨rfl, by simpa using h⟩
    | false => exact Or.inr ⟨rfl, by simpa using h⟩
theorem cutK_step {v : M2.View} {rs : List Mir.R4} {k : Nat} {r : Mir.R4} {s : M2.Sure} {b : Bool} {R : Bool × M2.Sure} (hr : rs[k]? = some r) (h : M2.cutK v (rs.drop k) k s b = some R) : ∃ b2 s2, M2.cutL v k r 4 s b = some (b2, s2) ∧ M2.cutK v (rs.drop (k + 1)) (k + 1) s2 b2 = some R := by
  obtain ⟨h1, h2⟩ := List.getElem?_eq_some_iff.1 hr
  rw [List.drop_eq_getElem_cons h1, h2, M2.cutK] at h
  split at h
  · cases h
  · rename_i b2 s2 hl
    exact ⟨b2, s2, hl, h⟩
theorem cutL_step {v : M2.View} {k n : Nat} {r : Mir.R4} {s : M2.Sure} {b : Bool} {R : Bool × M2.Sure} (h : M2.cutL v k r (n + 1) s b = some R) : ∃ longer x s2, r.get (3 - n) = some longer ∧ M2.cutGo v longer (3 - n) k 4 0 s false = some (x, s2) ∧ M2.cutL v k r n s2 (b || x) = some R := by
  rw [M2.cutL] at h
  split at h
  · cases h
  · rename_i longer hg
    split at h
    · cases h
    · rename_i x s2 hc
      exact ⟨longer, x, s2, hg, hc, h⟩
theorem ixR_0 (N0 N1 N2 N3 : Int) (w : World) : (Instr.index 106 (.agg #[.int .i64 N0, .int .i64 N1, .int .i64 N2, .int .i64 N3]) (.int .i64 0)).run Tryz.prog w = .ok (.int .i64 N0) w := by kernel_rfl
theorem ixR_1 (N0 N1 N2 N3 : Int) (w : World) : (Instr.index 106 (.agg #[.int .i64 N0, .int .i64 N1, .int .i64 N2, .int .i64 N3]) (.int .i64 1)).run Tryz.prog w = .ok (.int .i64 N1) w := by kernel_rfl
theorem ixR_2 (N0 N1 N2 N3 : Int) (w : World) : (Instr.index 106 (.agg #[.int .i64 N0, .int .i64 N1, .int .i64 N2, .int .i64 N3]) (.int .i64 2)).run Tryz.prog w = .ok (.int .i64 N2) w := by kernel_rfl
theorem ixR_3 (N0 N1 N2 N3 : Int) (w : World) : (Instr.index 106 (.agg #[.int .i64 N0, .int .i64 N1, .int .i64 N2, .int .i64 N3]) (.int .i64 3)).run Tryz.prog w = .ok (.int .i64 N3) w := by kernel_rfl
theorem ixR (r : Mir.R4) (j k : Nat) (hj : j < 4) (hk : r.get j = some k) (w : World) : (Instr.index 106 (.agg #[.int .i64 (r.a : Int), .int .i64 (r.b : Int), .int .i64 (r.c : Int), .int .i64 (r.d : Int)]) (.int .i64 (j : Int))).run Tryz.prog w = .ok (.int .i64 (k : Int)) w := by
  match j, hj, hk with
  | 0, _, hk => have e : r.a = k := Option.some.inj hk; rw [← e]; exact ixR_0 _ _ _ _ w
  | 1, _, hk => have e : r.b = k := Option.some.inj hk; rw [← e]; exact ixR_1 _ _ _ _ w
  | 2, _, hk => have e : r.c = k := Option.some.inj hk; rw [← e]; exact ixR_2 _ _ _ _ w
  | 3, _, hk => have e : r.d = k := Option.some.inj hk; rw [← e]; exact ixR_3 _ _ _ _ w
theorem Tryz.info105 : (Tryz.prog.info? 105).map (fun i => (i.zero, i.size, i.bytes)) = some (some (.agg #[.string ⟨#[]⟩, .string ⟨#[]⟩, .string ⟨#[]⟩, .string ⟨#[]⟩]), 4, 64) := by kernel_rfl
/-- What the outlook's own calls may change. -/
def Sur (_w : World) (O : Nat) : Nat → Prop := fun q => q = O
end Go.Proofs.YtmbapmbpnnaanabGreatDoor
namespace Go.Proofs.YtmbapmbpnnaanabGreatDoor
open Go.RowKit
attribute [local go_sem ↓] Go.wp_at_zero Go.wp_at_succ

structure FS (w : World) (v : M2.View) (su : M2.Sure) (base O : Nat) (ka kw kh kd vs : Value) (wr : World) : Prop where
  ol : OL v su [] base O ka kw kh kd vs nilS wr
  md : Mod (fun q => q = O) w wr
  fs : ∀ g, vs.ownBlock = some g → w.heap.size ≤ g
theorem FS.no {w : World} {v : M2.View} {su : M2.Sure} {base O : Nat} {ka kw kh kd vs : Value} {wr wr' : World} (h : FS w v su base O ka kw kh kd vs wr) (hm : Mod No wr wr') : FS w v su base O ka kw kh kd vs wr' := ⟨h.ol.no hm, h.md.no hm, h.fs⟩

set_option maxHeartbeats 1600000 in
set_option maxRecDepth 100000 in
theorem findSure_any (w : World) (v : M2.View) (base O : Nat) (ka kw kh kd : Value) (hO : OL v [] [] base O ka kw kh kd nilS nilS w) {s0 s1 : M2.Sure} (h0 : M2.sure0 v v.k.words = some s0) (h1 : M2.cutAll v 1000 s0 = some s1) :
    Calls Tryz.prog 94 #[.pointer (some ⟨O, 0, none⟩)] w fun e w' => e = .returned (.tuple #[]) ∧ ∃ vs, FS w v s1 base O ka kw kh kd vs w' ∧ SOk s1 v.k.ahead.length := by
  have hvp := hO.vp
  obtain ⟨n, hn⟩ : ∃ n, n = v.k.ahead.length := ⟨_, rfl⟩
  have hnw : v.k.words.length = n := by rw [hvp.kok.len, hvp.nh]; exact hn.symm
  have hn0 : 0 < n := by rw [hn, ← hvp.nh]; exact hvp.kok.pos
  have hn24 : n ≤ 24 := by rw [hn]; exact hvp.n24
  obtain ⟨a1, c1, e1, -, -⟩ := hvp.ah.open hn.symm
  obtain ⟨gw, cw, e2, -, -⟩ := hvp.wo.form (by omega)
  rw [hnw] at e2
  obtain ⟨a3, c3, e3, -, -⟩ := hvp.hi.open (n := n) (by rw [hvp.nh]; exact hn.symm)
  obtain ⟨a4, c4, e4, -, -⟩ := hvp.de.open (n := n) (by rw [hvp.ok.len]; exact hn.symm)
  have H75 : Hid (∀ (wx : World) (x : List UInt8) (tc : Nat) (r : List UInt8 × Nat), VP v base ka kw kh kd wx → x.length ≤ 1000 → tc < 4 → M2.vrun v x 0 tc = some r → Calls Tryz.prog 127 #[.agg #[ka, kw, kh, kd], .string ⟨x.toArray⟩, .int .i64 0, .int .i64 (tc : Int)] wx fun e w' => e = .returned (.tuple #[.string ⟨r.1.toArray⟩, .int .i64 (r.2 : Int)]) ∧ Mod No wx w') := fun wx x tc r hx hl ht hM => vrun_any wx ka kw kh kd v hx.ok ⟨x.toArray⟩ 0 tc hx.wo.sl hx.hi.sl hx.ah hx.de (by rw [str_size]; omega) (by omega) (by omega) (by simpa using hM)
  have H76 : Hid (∀ (wx : World) (su : M2.Sure) (gs cap kind l next : Nat) (b' : Bool) (su' : M2.Sure), OL v su [] base O ka kw kh kd (.slice (some ⟨gs, 0, none⟩) n cap) nilS wx → SOk su n → kind < n → l < 4 → M2.cutGo v kind l next 4 0 su false = some (b', su') → Calls Tryz.prog 128 #[.pointer (some ⟨O, 0, none⟩), .int .i64 (kind : Int), .int .i64 (l : Int), .int .i64 (next : Int)] wx fun e w' => e = .returned (.bool b') ∧ OL v su' [] base O ka kw kh kd (.slice (some ⟨gs, 0, none⟩) n cap) nilS w' ∧ SOk su' n ∧ Mod (fun q => q = gs) wx w') := fun wx su gs cap kind l next b' su' hOx hs hk hl hM => cut_any wx v su [] base O ka kw kh kd nilS gs n cap hOx hn hs kind l next hk hl hM
  have HV : Hid (VOk v ∧ n = v.k.ahead.length ∧ v.k.words.length = n ∧ (∀ x ∈ v.k.words, x.length ≤ v.k.words.length)) := ⟨hvp.ok, hn, hnw, hvp.kok.wl⟩
  have HE : Hid (ka = .slice a1 n c1 ∧ kw = .slice (some ⟨gw, 0, none⟩) n cw ∧ kh = .slice a3 n c3 ∧ kd = .slice a4 n c4) := ⟨e1, e2, e3, e4⟩
  have HI0 : Hid (FS w v [] base O ka kw kh kd nilS w) := ⟨hO, Mod.refl _ _, fun g hg => by cases hg⟩
  have H0 : Hid (M2.sure0 v (v.k.words.drop 0) = some s0) := h0
  have H1 : Hid (M2.cutAll v 1000 s0 = some s1) := h1
  have o1 := hO.blk.cell 1 rfl
  rw [e2] at o1
  rw [← hn]
  clear hvp hO h0 h1 hn hnw e1 e2 e3 e4
  go_enter Tryz.func94, Tryz.ntmps94
  go_wp2_with fail
  clear o1
  go_loopg [19] n (fun gh v19 wr => ∃ (i : Nat) (su R : M2.Sure) (vs : Value), i ≤ n ∧ gh = n - i ∧ v19 = .int .i64 (i : Int) ∧ FS w v su base O ka kw kh kd vs wr ∧ SOk su i ∧ M2.sure0 v (v.k.words.drop i) = some R ∧ su ++ R = s0)
  case atStart => exact ⟨0, [], s0, nilS, by omega, by omega, rfl, HI0.out, ⟨rfl, (fun r hr => by cases hr), (fun r hr => by cases hr)⟩, H0.out, rfl⟩
  case round =>
    obtain ⟨i, su, R, vs, hin, hgk, rfl, hI, hsk, hR, hsR⟩ := hrel
    have HI : Hid (FS w v su base O ka kw kh kd vs wr) := hI
    have HSK : Hid (SOk su i) := hsk
    clear HI0 H0
    by_cases hlt : i < n
    · obtain ⟨x, hx⟩ : ∃ x, v.k.words[i]? = some x := ⟨v.k.words[i]'(by have := HV.out.2.2.1; omega), List.getElem?_eq_getElem _⟩
      obtain ⟨xs, R2, hxs, hR2, hRR⟩ := sure0_step hx hR
      have hxl : x.length ≤ 24 := by have := HV.out.2.2.2 x (List.mem_of_getElem? hx); rw [HV.out.2.2.1] at this; omega
      have hspec := sureOf_spec hxs
      have hrw := hI.ol.vp.wo
      rw [HE.out.2.1] at hrw
      have cw' := StE.cell hrw hx
      obtain ⟨a5, c5, h5, -, hown⟩ := hI.ol.su.open hsk.len
      have o4 := hI.ol.blk.cell 4 rfl
      rw [h5] at o4
      have HVS : Hid (vs = .slice a5 i c5) := h5
      have HX : Hid (xs.length = 4 ∧ ∀ j, j < 4 → ∃ r, M2.vrun v x 0 j = some r ∧ xs[j]? = some r.1) := hspec
      have HXS : Hid (∀ y ∈ xs, y.length ≤ 1000) := fun y hy => by
        obtain ⟨q, hq⟩ := List.mem_iff_getElem?.1 hy
        have hq4 : q < 4 := by have := (List.getElem?_eq_some_iff.1 hq).1; rw [hspec.1] at this; exact this
        obtain ⟨r, hr, hr2⟩ := hspec.2 q hq4
        rw [hq] at hr2
        have := vrun_small HV.out.1 (by omega) hr
        rw [← Option.some.inj hr2] at this
        omega
      have HR2 : Hid (M2.sure0 v (v.k.words.drop (i + 1)) = some R2 ∧ su ++ [xs] ++ R2 = s0) := ⟨hR2, by rw [← hsR, hRR]; simp⟩
      obtain ⟨i0, hinf, hz0, hz1, hz2⟩ := info_parts Tryz.info105
      have hii : (i : Int) < (n : Int) := by omega
      have hlt0 := hI.ol.blk.lt
      have f4 := hI.ol.blk.free 4
      have hOs : some O ≠ vs.ownBlock := fun e => hI.ol.blk.apart hI.ol.su (by decide) e.symm
      rw [h5] at hOs
      have HXL : Hid (x.length ≤ 24) := hxl
      have hown : wr.ownsRow 0 105 4 (.slice a5 i c5) i (su.flatMap SuE.f) := hown
      clear hI hrw h5 hsk hR hsR hxs hR2 hRR hspec hx
      go_wp2_with (at_builtin; refine wpList_append_lies _ rfl _ _ 151 rfl 0 105 i0 _ 4 64 Tryz.underlying151 hinf hz0 hz1 hz2 rfl (by omega) (.slice a5 i c5) i (su.flatMap SuE.f) rfl (hown.alloc _) ⟨wr.heap.size, 0, none⟩ 1 1 [.string ⟨#[]⟩, .string ⟨#[]⟩, .string ⟨#[]⟩, .string ⟨#[]⟩] rfl rfl (World.news_of_block (cs := #[.string ⟨#[]⟩, .string ⟨#[]⟩, .string ⟨#[]⟩, .string ⟨#[]⟩]) (t := 105) (fr := (0, 0)) (heap_alloc_new wr _)) (by intro u hu; simp at hu; rw [hu]; rfl) (by omega) (by unfold maxLen; omega) (by omega) (by simp) (wr.heap.size + 1) (by simp) ?_)
      intro gg cap2 w4 hown4 hgrow hat hltt
      have hm3 : Mod No wr (wr.alloc (Obj.cells #[.string ⟨#[]⟩, .string ⟨#[]⟩, .string ⟨#[]⟩, .string ⟨#[]⟩] 105)) := (Mod.refl _ _).alloc _
      have hI3 := HI.out.no hm3
      have hr4 : Row SuE w4 (.slice (some ⟨gg, 0, none⟩) (i + 1) cap2) (su ++ [rowAt xs 0]) := app_row HSK.out.len rfl hown4
      have hf4 : Fresh (wr.alloc (Obj.cells #[.string ⟨#[]⟩, .string ⟨#[]⟩, .string ⟨#[]⟩, .string ⟨#[]⟩] 105)) vs (.slice (some ⟨gg, 0, none⟩) (i + 1) cap2) := app_fresh (H := wr.heap.size + 1) (by rw [HVS.out]; exact hat) (by simp)
      have hB4 : Blk w4 O [ka, kw, kh, kd, vs, nilS] 154 := hI3.ol.blk.grown hgrow hOs
      have b4 := hB4.cell 4 rfl
      rw [HVS.out] at b4
      have g4 := hB4.free 4
      have HI5 : Hid (FS w v (su ++ [rowAt xs 0]) base O ka kw kh kd (.slice (some ⟨gg, 0, none⟩) (i + 1) cap2) (w4.setCell ⟨O, 4, none⟩ (.slice (some ⟨gg, 0, none⟩) (i + 1) cap2))) := by
        refine ⟨hI3.ol.grow (by rw [HVS.out]; exact hgrow) hr4, ?_, fun g hg => ?_⟩
        · have hm4 : Mod (fun q => q = O) w w4 := hI3.md.grown hgrow (fun g e hlt2 => by
            have := HI.out.fs g (by rw [HVS.out]; exact e); omega)
          exact hm4.setCell (a := ⟨O, 4, none⟩) (fun _ => rfl) _
        · rcases hf4 g hg with e | e
          · exact HI.out.fs g e
          · have := hI3.md.size; omega
      clear hm3 hI3 hr4 hf4 hB4 hown4 hgrow hat hltt hown hinf hz0 hz1 hz2 o4 f4 hOs
      obtain ⟨w5, hw5⟩ : ∃ w5, w4.setCell ⟨O, 4, none⟩ (.slice (some ⟨gg, 0, none⟩) (i + 1) cap2) = w5 := ⟨_, rfl⟩
      rw [hw5] at HI5
      clear HI
      go_wp2_with fail
      clear hw5 b4 g4 cw'
      go_loopg [34] 4 (fun gh v34 wr => ∃ j : Nat, j ≤ 4 ∧ gh = 4 - j ∧ v34 = .int .i64 (j : Int) ∧ FS w v (su ++ [rowAt xs j]) base O ka kw kh kd (.slice (some ⟨gg, 0, none⟩) (i + 1) cap2) wr)
      case atStart => exact ⟨0, by omega, rfl, rfl, HI5.out⟩
      case round =>
        clear HI5
        obtain ⟨j, hj4, hgj, rfl, hI⟩ := hrel
        have HI : Hid (FS w v (su ++ [rowAt xs j]) base O ka kw kh kd (.slice (some ⟨gg, 0, none⟩) (i + 1) cap2) wr) := hI
        by_cases hj : j < 4
        · obtain ⟨r, hr, hxj⟩ := HX.out.2 j hj
          have h75 := H75.out wr x j r hI.ol.vp (by have := HXL.out; omega) hj hr
          have hrs := vrun_small HV.out.1 (by omega) hr
          have HXJ : Hid (xs[j]? = some r.1 ∧ r.1.length ≤ 1000) := ⟨hxj, by have := HXL.out; omega⟩
          have o0 := hI.ol.blk.cell 0 rfl
          have o1 := hI.ol.blk.cell 1 rfl
          have o2 := hI.ol.blk.cell 2 rfl
          have o3 := hI.ol.blk.cell 3 rfl
          rw [HE.out.1] at o0 h75
          rw [HE.out.2.1] at o1 h75
          rw [HE.out.2.2.1] at o2 h75
          rw [HE.out.2.2.2] at o3 h75
          have hji : (j : Int) < 4 := by omega
          clear hI hr hxj hrs
          go_wp2_with fail
          refine h75.mono ?_
          rintro e w6 ⟨rfl, m6⟩
          have HI6 : Hid (FS w v (su ++ [rowAt xs j]) base O ka kw kh kd (.slice (some ⟨gg, 0, none⟩) (i + 1) cap2) w6) := HI.out.no m6
          have hget : M2.get2 (su ++ [rowAt xs j]) i j = some ((rowAt xs j)[j]'(by rw [rowAt_len HX.out.1 (by omega)]; exact hj)) := by
            unfold M2.get2
            rw [List.getElem?_append_right (by rw [HSK.out.len]; omega), HSK.out.len, Nat.sub_self]
            show (rowAt xs j)[j]? = _
            rw [List.getElem?_eq_getElem]
          have hsok : SOk (su ++ [rowAt xs j]) (i + 1) := by
            refine ⟨by simp [HSK.out.len], fun q hq => ?_, fun q hq y hy => ?_⟩
            · rcases List.mem_append.1 hq with h | h
              · exact HSK.out.four q h
              · rw [List.mem_singleton.1 h]; exact rowAt_len HX.out.1 (by omega)
            · rcases List.mem_append.1 hq with h | h
              · exact HSK.out.sm q h y hy
              · rw [List.mem_singleton.1 h] at hy
                unfold rowAt at hy
                rcases List.mem_append.1 hy with h2 | h2
                · exact HXS.out y (List.mem_of_mem_take h2)
                · rw [List.eq_of_mem_replicate h2]; simp
          have HI7 : Hid (FS w v (su ++ [rowAt xs (j + 1)]) base O ka kw kh kd (.slice (some ⟨gg, 0, none⟩) (i + 1) cap2) (w6.setCell ⟨gg, i * 4 + j, none⟩ (.string ⟨r.1.toArray⟩))) := by
            have hq := HI6.out.ol.cut hsok hget r.1 hj
            have e : M2.set2 (su ++ [rowAt xs j]) i j r.1 = su ++ [rowAt xs (j + 1)] := by
              rw [set2_eq (r := rowAt xs j) _ (by rw [List.getElem?_append_right (by rw [HSK.out.len]; omega), HSK.out.len, Nat.sub_self]; rfl), rowAt_set HX.out.1 hj HXJ.out.1, List.set_append_right _ _ (by rw [HSK.out.len]; omega), HSK.out.len, Nat.sub_self]
              rfl
            rw [e] at hq
            exact ⟨hq, HI6.out.md.setCell (a := ⟨gg, i * 4 + j, none⟩) (fun h => absurd h (by have := HI6.out.fs gg rfl; show ¬ gg < w.heap.size; omega)) _, HI6.out.fs⟩
          have q4 := HI6.out.ol.blk.cell 4 rfl
          have cj := sure_cell HI6.out.ol.su hj hget
          have fj := HI6.out.ol.su.free (i * 4 + j)
          have hii2 : (i : Int) < ((i + 1 : Nat) : Int) := by omega
          have hii3 : (i : Int) < (i : Int) + 1 := by omega
          clear h75 m6 HI o0 o1 o2 o3 hget hsok
          go_wp2
          go_roundg (4 - (j + 1))
          case measure => omega
          case rel => exact ⟨j + 1, by omega, rfl, by go_num, HI7.out⟩
        · obtain rfl : j = 4 := by omega
          have h44 : ¬ ((4 : Nat) : Int) < 4 := by omega
          clear hI hgj hj4 hj H75 H76
          go_wp2
          go_roundg (n - (i + 1))
          case measure => omega
          case rel => exact ⟨i + 1, su ++ [xs], R2, _, by omega, rfl, by go_num, by have h := HI.out; rw [rowAt_full HX.out.1] at h; exact h, ⟨by simp [HSK.out.len], fun q hq => (by
            rcases List.mem_append.1 hq with h | h
            · exact HSK.out.four q h
            · rw [List.mem_singleton.1 h]; exact HX.out.1), fun q hq y hy => (by
            rcases List.mem_append.1 hq with h | h
            · exact HSK.out.sm q h y hy
            · rw [List.mem_singleton.1 h] at hy; exact HXS.out y hy)⟩, HR2.out.1, HR2.out.2⟩
    · obtain rfl : i = n := by omega
      have e1 : v.k.words.drop i = [] := List.drop_of_length_le (by rw [HV.out.2.2.1]; omega)
      rw [e1, M2.sure0] at hR
      have hR0 : ([] : M2.Sure) = R := Option.some.inj hR
      rw [← hR0, List.append_nil] at hsR
      subst hsR
      obtain ⟨gs, cs, h5, -, -⟩ := hI.ol.su.form (by rw [hsk.len]; omega)
      rw [hsk.len] at h5
      subst h5
      have hfs := hI.fs gs rfl
      clear hI hsk hR e1 hR0 H75
      have hii : ¬ (i : Int) < (i : Int) := by omega
      go_wp2_with fail
      go_loopg [7] 1001 (fun gh v7 wr => ∃ (b : Bool) (s : M2.Sure), v7 = .bool b ∧ FS w v s base O ka kw kh kd (.slice (some ⟨gs, 0, none⟩) i cs) wr ∧ SOk s i ∧ ((b = true ∧ ∃ f, gh = f + 1 ∧ M2.cutAll v f s = some s1) ∨ (b = false ∧ s = s1)))
      case atStart => exact ⟨true, su, rfl, HI.out, HSK.out, Or.inl ⟨rfl, 1000, rfl, H1.out⟩⟩
      case round =>
        clear HI HSK H1
        obtain ⟨b, s, rfl, hI, hsk, hb⟩ := hrel
        have HI : Hid (FS w v s base O ka kw kh kd (.slice (some ⟨gs, 0, none⟩) i cs) wr) := hI
        have HSK : Hid (SOk s i) := hsk
        rcases hb with ⟨rfl, f, hgf, hall⟩ | ⟨rfl, rfl⟩
        · match f, hgf, hall with
          | 0, hgf, hall => cases hall
          | f + 1, hgf, hall =>
            obtain ⟨b2, s2, hK, hend⟩ := cutAll_step hall
            have HK : Hid (M2.cutK v (v.k.ahead.drop 0) 0 s false = some (b2, s2)) := hK
            have HEND : Hid ((b2 = true ∧ M2.cutAll v f s2 = some s1) ∨ (b2 = false ∧ s2 = s1)) := hend
            have o0 := hI.ol.blk.cell 0 rfl
            rw [HE.out.1] at o0
            clear hI hsk hall hK hend
            go_wp2_with fail
            clear o0
            go_loopg [7, 66] i (fun gh v7 v66 wr => ∃ (k : Nat) (b : Bool) (s : M2.Sure), k ≤ i ∧ gh = i - k ∧ v66 = .int .i64 (k : Int) ∧ v7 = .bool b ∧ FS w v s base O ka kw kh kd (.slice (some ⟨gs, 0, none⟩) i cs) wr ∧ SOk s i ∧ M2.cutK v (v.k.ahead.drop k) k s b = some (b2, s2))
            case atStart => exact ⟨0, false, s, by omega, by omega, rfl, rfl, HI.out, HSK.out, HK.out⟩
            case round =>
              clear HI HSK HK
              obtain ⟨k, b, s, hki, hgk2, rfl, rfl, hI, hsk, hK⟩ := hrel
              have HI : Hid (FS w v s base O ka kw kh kd (.slice (some ⟨gs, 0, none⟩) i cs) wr) := hI
              have HSK : Hid (SOk s i) := hsk
              by_cases hkl : k < i
              · obtain ⟨r, hr⟩ : ∃ r, v.k.ahead[k]? = some r := ⟨v.k.ahead[k]'(by have := HV.out.2.1; omega), List.getElem?_eq_getElem _⟩
                obtain ⟨b3, s3, hL, hK2⟩ := cutK_step hr hK
                have hra := hI.ol.vp.ah
                rw [HE.out.1] at hra
                obtain ⟨ga, hga⟩ : ∃ g, a1 = some ⟨g, 0, none⟩ := by
                  obtain ⟨g2, c2, h2, -⟩ := hI.ol.vp.ah.form (by have := HV.out.2.1; omega)
                  rw [HE.out.1] at h2
                  injection h2 with h2 _
                  exact ⟨g2, h2⟩
                subst hga
                have r0 : wr.cell? ⟨ga, k * 4, none⟩ = some (.int .i64 (r.a : Int)) := hra.cell k 0 hr rfl
                have r1 : wr.cell? ⟨ga, k * 4 + 1, none⟩ = some (.int .i64 (r.b : Int)) := hra.cell k 1 hr rfl
                have r2 : wr.cell? ⟨ga, k * 4 + 2, none⟩ = some (.int .i64 (r.c : Int)) := hra.cell k 2 hr rfl
                have r3 : wr.cell? ⟨ga, k * 4 + 3, none⟩ = some (.int .i64 (r.d : Int)) := hra.cell k 3 hr rfl
                have HL : Hid (M2.cutL v k r 4 s b = some (b3, s3)) := hL
                have HK2 : Hid (M2.cutK v (v.k.ahead.drop (k + 1)) (k + 1) s3 b3 = some (b2, s2)) := hK2
                have HENT : Hid (∀ l q, r.get l = some q → q < i) := fun l q hq => by have := HV.out.1.ent r (List.mem_of_getElem? hr) l q hq; have := HV.out.2.1; omega
                have hkii : (k : Int) < (i : Int) := by omega
                have HI1 : Hid (FS w v s base O ka kw kh kd (.slice (some ⟨gs, 0, none⟩) i cs) (wr.alloc (Obj.cells #[.int .i64 (r.a : Int), .int .i64 (r.b : Int), .int .i64 (r.c : Int), .int .i64 (r.d : Int)] 106))) := HI.out.no ((Mod.refl _ _).alloc _)
                clear hI hsk hK hL hK2 hra hr HI
                go_wp2_with fail
                clear r0 r1 r2 r3
                generalize wr.alloc (Obj.cells #[.int .i64 (r.a : Int), .int .i64 (r.b : Int), .int .i64 (r.c : Int), .int .i64 (r.d : Int)] 106) = W1 at HI1 ⊢
                go_loopg [7, 72] 4 (fun gh v7 v72 wr => ∃ (l : Nat) (b : Bool) (s : M2.Sure), l ≤ 4 ∧ gh = 4 - l ∧ v72 = .int .i64 (l : Int) ∧ v7 = .bool b ∧ FS w v s base O ka kw kh kd (.slice (some ⟨gs, 0, none⟩) i cs) wr ∧ SOk s i ∧ M2.cutL v k r gh s b = some (b3, s3))
                case atStart => exact ⟨0, b, s, by omega, rfl, rfl, rfl, HI1.out, HSK.out, HL.out⟩
                case round =>
                  clear HI1 HSK HL
                  obtain ⟨l, b, s, hl4, hgl, rfl, rfl, hI, hsk, hL⟩ := hrel
                  have HI : Hid (FS w v s base O ka kw kh kd (.slice (some ⟨gs, 0, none⟩) i cs) wr) := hI
                  have HSK : Hid (SOk s i) := hsk
                  match gk, hgl, hL with
                  | 0, hgl, hL =>
                    obtain rfl : l = 4 := by omega
                    have HB : Hid (b = b3 ∧ s = s3) := by
                      have h : some (b, s) = some (b3, s3) := hL
                      cases h; exact ⟨rfl, rfl⟩
                    have h44 : ¬ ((4 : Nat) : Int) < 4 := by omega
                    clear hL hI hsk hgl hl4 H76
                    go_wp2
                    go_roundg (i - (k + 1))
                    case measure => omega
                    case rel => exact ⟨k + 1, b3, s3, by omega, rfl, by go_num, by rw [HB.out.1], by rw [← HB.out.2]; exact HI.out, by rw [← HB.out.2]; exact HSK.out, HK2.out⟩
                  | g + 1, hgl, hL =>
                    obtain ⟨longer, x, s4, hget, hc, hL2⟩ := cutL_step hL
                    obtain rfl : l = 3 - g := by omega
                    have hl3 : 3 - g < 4 := by omega
                    have h76 := H76.out wr s gs cs longer (3 - g) k x s4 hI.ol hsk (HENT.out _ _ hget) hl3 hc
                    have hix := ixR r (3 - g) longer hl3 hget
                    have HL2 : Hid (M2.cutL v k r g s4 (b || x) = some (b3, s3)) := hL2
                    have hli : ((3 - g : Nat) : Int) < 4 := by omega
                    obtain ⟨L, hLL⟩ : ∃ L, L = 3 - g := ⟨_, rfl⟩
                    rw [← hLL] at h76 hix hli hgl hl4 ⊢
                    clear hI hsk hL hL2 hc hget hLL
                    go_wp2_with fail
                    refine h76.mono ?_
                    rintro e w3 ⟨rfl, ho3, hs3, m3⟩
                    have HI3 : Hid (FS w v s4 base O ka kw kh kd (.slice (some ⟨gs, 0, none⟩) i cs) w3 ∧ SOk s4 i) := ⟨⟨ho3, HI.out.md.trans' m3 (fun q hq e => by omega), HI.out.fs⟩, hs3⟩
                    clear h76 hix ho3 hs3 m3 HI
                    cases x with
                    | true =>
                      have HL3 : Hid (M2.cutL v k r g s4 true = some (b3, s3)) := by have h := HL2.out; rw [Bool.or_true] at h; exact h
                      go_wp2
                      go_roundg g
                      case measure => omega
                      case rel => exact ⟨L + 1, true, s4, by omega, by omega, by go_num, rfl, HI3.out.1, HI3.out.2, HL3.out⟩
                    | false =>
                      have HL3 : Hid (M2.cutL v k r g s4 b = some (b3, s3)) := by have h := HL2.out; rw [Bool.or_false] at h; exact h
                      go_wp2
                      go_roundg g
                      case measure => omega
                      case rel => exact ⟨L + 1, b, s4, by omega, by omega, by go_num, rfl, HI3.out.1, HI3.out.2, HL3.out⟩
              · obtain rfl : k = i := by omega
                have e1 : v.k.ahead.drop k = [] := List.drop_of_length_le (by have := HV.out.2.1; omega)
                rw [e1, M2.cutK] at hK
                have HB : Hid (b = b2 ∧ s = s2) := by
                  have h : some (b, s) = some (b2, s2) := hK
                  cases h; exact ⟨rfl, rfl⟩
                have hkk : ¬ (k : Int) < (k : Int) := by omega
                clear hI hsk hK e1 H76
                go_wp2
                go_roundg (f + 1)
                case measure => omega
                case rel =>
                  refine ⟨b2, s2, by rw [HB.out.1], by rw [← HB.out.2]; exact HI.out, by rw [← HB.out.2]; exact HSK.out, ?_⟩
                  rcases HEND.out with ⟨h1, h2⟩ | h
                  · exact Or.inl ⟨h1, f, rfl, h2⟩
                  · exact Or.inr h
        · clear hI hsk H76
          go_wp2
          go_end0
          exact ⟨rfl, _, HI.out, HSK.out⟩
end Go.Proofs.YtmbapmbpnnaanabGreatDoor
