import Derived.Test.YtmbapmbpnnaanabGreatDoorKH
namespace Go.Proofs.YtmbapmbpnnaanabGreatDoor
open Go.RowKit
attribute [local go_sem ↓] Go.wp_at_zero Go.wp_at_succ
attribute [local go_sem] pieceV

section
variable {w w1 w2 w' : World} {b : Nat} {s : ByteArray} {vp vp1 : Value} {p p1 p2 : Mir.PS}

set_option maxHeartbeats 1000000 in
theorem rowEnd_any (h : PSt w b s vp p) (hs : s.size ≤ 1048576) :
    Calls Tryz.prog 156 #[.pointer (some ⟨b, 0, none⟩)] w fun e w' => e = .returned (.bool (Mir.rowEnd s.data.toList p)) ∧ ∃ n, w' = w.drewN n := by
  have hbad := lbad h
  have hleft := lleft h hs
  have hs1 := fun n => lsees (h.drewN n) 124 hs
  have hs2 := fun n => lsees (h.drewN n) 41 hs
  have hE : Mir.rowEnd s.data.toList p = (p.bad || decide (p.k = s.size) || Mir.sees s.data.toList 124 p || Mir.sees s.data.toList 41 p) := by
    unfold Mir.rowEnd; rw [data_len]
  have hks := h.ks
  rw [hE]
  clear hE h
  generalize Mir.sees s.data.toList 124 p = v1 at hs1
  generalize Mir.sees s.data.toList 41 p = v2 at hs2
  obtain ⟨k, bad, ps⟩ := p
  simp only at hbad hleft hks ⊢
  cases bad with
  | true =>
    simp only [Bool.true_or]
    go_enter Tryz.func156, Tryz.ntmps156
    go_wp2_with fail
    refine hbad.mono ?_
    rintro e w1 ⟨rfl, rfl⟩
    go_wp2
    go_ret
    exact ⟨rfl, 0, rfl⟩
  | false =>
    simp only [Bool.false_or]
    by_cases hk : k = s.size
    · have h0 : (((s.size : Int) - (k : Int)) == 0) = true := by rw [hk]; simp
      simp only [decide_eq_true hk, Bool.true_or]
      clear hk
      generalize (s.size : Int) - (k : Int) = D at hleft h0
      go_enter Tryz.func156, Tryz.ntmps156
      go_wp2_with fail
      refine hbad.mono ?_
      rintro e w1 ⟨rfl, rfl⟩
      go_wp2_with fail
      refine hleft.mono ?_
      rintro e w1 ⟨rfl, n, rfl⟩
      go_wp2
      go_ret
      exact ⟨rfl, _, rfl⟩
    · have h0 : (((s.size : Int) - (k : Int)) == 0) = false := by rw [beq_eq_false_iff_ne]; omega
      simp only [decide_eq_false hk, Bool.false_or]
      clear hk
      generalize (s.size : Int) - (k : Int) = D at hleft h0
      cases v1 with
      | true =>
        simp only [Bool.true_or]
        go_enter Tryz.func156, Tryz.ntmps156
        go_wp2_with fail
        refine hbad.mono ?_
        rintro e w1 ⟨rfl, rfl⟩
        go_wp2_with fail
        refine hleft.mono ?_
        rintro e w1 ⟨rfl, n, rfl⟩
        go_wp2_with fail
        refine (hs1 n).mono ?_
        rintro e w1 ⟨rfl, m, rfl⟩
        go_wp2
        go_ret
        exact ⟨rfl, _, rfl⟩
      | false =>
        simp only [Bool.false_or]
        go_enter Tryz.func156, Tryz.ntmps156
        go_wp2_with fail
        refine hbad.mono ?_
        rintro e w1 ⟨rfl, rfl⟩
        go_wp2_with fail
        refine hleft.mono ?_
        rintro e w1 ⟨rfl, n, rfl⟩
        go_wp2_with fail
        refine (hs1 n).mono ?_
        rintro e w1 ⟨rfl, m, rfl⟩
        rw [World.drewN_drewN]
        go_wp2_with fail
        refine (hs2 _).mono ?_
        rintro e w1 ⟨rfl, m2, rfl⟩
        go_wp2
        go_ret
        exact ⟨rfl, _, rfl⟩

/-- What a call on the parser that gives a piece promises. -/
abbrev Gives (w : World) (b : Nat) (s : ByteArray) (vp : Value) (x : Mir.Piece) (p' : Mir.PS) (e : Ending) (w' : World) : Prop := e = .returned (pieceV x) ∧ POk x ∧ Led w w' b s vp p'

theorem Led.fin {o : Obj} (h : Led (w.alloc o) w1 b s vp p1) (hb : b < w.heap.size) (hv : ∀ g, vp.ownBlock = some g → g < w.heap.size) (A0 A1 A2 : Value) :
    Led w (((w1.setCell ⟨w.heap.size, 0, none⟩ A0).setCell ⟨w.heap.size, 1, none⟩ A1).setCell ⟨w.heap.size, 2, none⟩ A2) b s vp p1 := by
  have hvn : vp.ownBlock ≠ some w.heap.size := fun e => by have := hv _ e; omega
  obtain ⟨vp1, h1, f1, m1⟩ := h
  have hn1 : vp1.ownBlock ≠ some w.heap.size := f1.old hvn (by simp)
  have hbn : b ≠ w.heap.size := by omega
  refine ⟨vp1, ((h1.other (a := ⟨w.heap.size, 0, none⟩) hbn hn1 A0).other (a := ⟨w.heap.size, 1, none⟩) hbn hn1 A1).other (a := ⟨w.heap.size, 2, none⟩) hbn hn1 A2, fun g hg => ?_, ?_⟩
  · rcases f1 g hg with h | h
    · exact Or.inl h
    · exact Or.inr (by simp at h; omega)
  · have := ((Mod.refl (Pt b vp) w).alloc o).trans m1
    exact ((this.setCell (a := ⟨w.heap.size, 0, none⟩) (fun h => absurd h (by simp)) A0).setCell (a := ⟨w.heap.size, 1, none⟩) (fun h => absurd h (by simp)) A1).setCell (a := ⟨w.heap.size, 2, none⟩) (fun h => absurd h (by simp)) A2

theorem Led.keep {L : Nat} {cs : List Value} {T : Nat} (h : Led w w1 b s vp p1) (h0 : Blk w L cs T) (hb : b ≠ L) (hv : vp.ownBlock ≠ some L) : Blk w1 L cs T := by
  obtain ⟨_, _, _, m1⟩ := h
  exact keepL h0 (fun e => hb e.symm) hv m1

theorem empty_arr (l : List UInt8) : (⟨l.toArray⟩ : ByteArray).toList.isEmpty = l.isEmpty := by rw [toList_data]
theorem run_size (P : UInt8 → Bool) (hp : p.k ≤ s.size) (hs : s.size ≤ 1048576) : (⟨(Mir.runM P s.data.toList p).1.toArray⟩ : ByteArray).size ≤ 1048576 := by
  show (Mir.runM P s.data.toList p).1.toArray.size ≤ 1048576
  rw [List.size_toArray]
  have := run_le P s.data.toList p.k (by rw [data_len]; exact hp)
  rw [data_len] at this
  have e : (Mir.runM P s.data.toList p).1 = run P s.data.toList p.k := rfl
  rw [e]; omega

set_option maxHeartbeats 2000000 in
set_option maxRecDepth 100000 in
theorem set_any (h : PSt w b s vp p) (hs : s.size ≤ 1048576) {x : Mir.Piece} {p' : Mir.PS} (hM : Mir.setM s.data.toList p = some (x, p')) :
    Calls Tryz.prog 163 #[.pointer (some ⟨b, 0, none⟩)] w fun e w' => Gives w b s vp x p' e w' := by
  have hb := h.lt
  have hown := fun g hg => h.own (g := g) hg
  unfold Mir.setM at hM
  dsimp only at hM
  generalize e1 : Mir.takeM s.data.toList 91 p = q1 at hM
  have H1 : Hid (∀ o, Calls Tryz.prog 81 #[.pointer (some ⟨b, 0, none⟩), .int .u8 91] (w.alloc o) fun e w' => e = .returned (.tuple #[]) ∧ PSt w' b s vp q1 ∧ Mod (Pt b vp) (w.alloc o) w') := fun o => by
    have := ltake (h.alloc o) 91 hs
    rw [e1] at this; exact this
  clear e1 h
  generalize e2 : Mir.skipM s.data.toList 94 q1 = q2 at hM
  generalize e3 : Mir.sees s.data.toList 94 q1 = o1 at hM
  have H2 : Hid (∀ wx, PSt wx b s vp q1 → Calls Tryz.prog 83 #[.pointer (some ⟨b, 0, none⟩), .int .u8 94] wx fun e w' => e = .returned (.bool o1) ∧ PSt w' b s vp q2 ∧ Mod (Pt b vp) wx w') := fun wx hx => by
    have := lskip hx 94 hs
    rw [e2, e3] at this; exact this
  clear e2 e3
  generalize e4 : Mir.runM Mir.isL s.data.toList q2 = r at hM
  have H3 : Hid (∀ wx, PSt wx b s vp q2 → (⟨r.1.toArray⟩ : ByteArray).size ≤ 1048576 ∧ Calls Tryz.prog 80 #[.pointer (some ⟨b, 0, none⟩), .int .i64 0] wx fun e w' => e = .returned (.string ⟨r.1.toArray⟩) ∧ PSt w' b s vp r.2 ∧ Mod (Pt b vp) wx w') := fun wx hx => by
    have := lrun hx hs
    rw [e4] at this; exact ⟨by rw [← e4]; exact run_size _ hx.ks hs, this⟩
  clear e4
  obtain ⟨rl, q3⟩ := r
  simp only at hM H3
  generalize e5 : Mir.takeM s.data.toList 93 q3 = q4 at hM
  have H4 : Hid (∀ wx, PSt wx b s vp q3 → Calls Tryz.prog 81 #[.pointer (some ⟨b, 0, none⟩), .int .u8 93] wx fun e w' => e = .returned (.tuple #[]) ∧ PSt w' b s vp q4 ∧ Mod (Pt b vp) wx w') := fun wx hx => by
    have := ltake hx 93 hs
    rw [e5] at this; exact this
  clear e5
  have hem := empty_arr rl
  have H5 : Hid (∀ S : ByteArray, S = ⟨rl.toArray⟩ → S.size ≤ 1048576 → ∀ wx, (Calls Tryz.prog 166 #[.string S] wx fun e w' => e = .returned (.bool (Mir.rising rl)) ∧ ∃ n, w' = wx.drewN n) ∧ (Calls Tryz.prog 164 #[.string S] wx fun e w' => e = .returned (b4V (Mir.allBut rl)) ∧ Mod No wx w') ∧ (Calls Tryz.prog 117 #[.string S] wx fun e w' => e = .returned (b4V (Mir.allOf rl Mir.none4)) ∧ Mod No wx w')) := fun S e hS wx => by
    subst e
    exact ⟨isRising_any _ wx hS, allBut_any _ wx hS, allOf_any _ wx hS⟩
  generalize hS : (⟨rl.toArray⟩ : ByteArray) = S at hem H3 H5
  have H5 : Hid (S.size ≤ 1048576 → ∀ wx, (Calls Tryz.prog 166 #[.string S] wx fun e w' => e = .returned (.bool (Mir.rising rl)) ∧ ∃ n, w' = wx.drewN n) ∧ (Calls Tryz.prog 164 #[.string S] wx fun e w' => e = .returned (b4V (Mir.allBut rl)) ∧ Mod No wx w') ∧ (Calls Tryz.prog 117 #[.string S] wx fun e w' => e = .returned (b4V (Mir.allOf rl Mir.none4)) ∧ Mod No wx w')) := H5.out S rfl
  clear hS
  generalize Mir.rising rl = ri at hM H5
  generalize rl.isEmpty = em at hM hem
  generalize Mir.allBut rl = tb at hM H5
  generalize Mir.allOf rl Mir.none4 = ta at hM H5
  have HM : Hid _ := hM
  have HOWN : Hid (∀ g, vp.ownBlock = some g → g < w.heap.size) := hown
  have hvR : vp.ownBlock ≠ some w.heap.size := fun e => by have := hown _ e; omega
  have hbR : b ≠ w.heap.size := by omega
  clear hM hown
  go_enter Tryz.func163, Tryz.ntmps163
  go_wp2_with fail
  refine (H1.out _).mono ?_
  rintro e w1 ⟨rfl, h1, m1⟩
  clear H1
  go_wp2_with fail
  refine (H2.out _ h1).mono ?_
  rintro e w2 ⟨rfl, h2, m2⟩
  clear H2 h1
  go_wp2_with fail
  obtain ⟨hSs, H3⟩ := H3.out _ h2
  refine H3.mono ?_
  rintro e w3 ⟨rfl, h3, m3⟩
  clear H3 h2
  go_wp2_with fail
  refine (H4.out _ h3).mono ?_
  rintro e w4 ⟨rfl, h4, m4⟩
  clear H4 h3
  have m4 : Mod (Pt b vp) (w.alloc (Obj.cells #[.bool false, .int .u32 0, .int .u32 0] 134)) w4 := ((m1.trans m2).trans m3).trans m4
  have H6 := H5.out hSs
  clear m1 m2 m3 H5
  cases em with
  | true =>
    have hM := HM.out
    rw [show (true || !ri) = true from rfl, if_pos rfl] at hM
    generalize hq : Mir.failM q4 = q5 at hM
    have HM : Hid ((match Mir.addM q5.ps (if o1 = true then tb else ta) with | none => none | some (q, ps) => some (q, { q5 with ps := ps })) = some (x, p')) := hM
    clear hM
    go_wp2_with fail
    refine (lfail h4).mono ?_
    rintro e w5 ⟨rfl, h5, m5⟩
    have m5 : Mod (Pt b vp) (w.alloc (Obj.cells #[.bool false, .int .u32 0, .int .u32 0] 134)) w5 := m4.trans m5
    rw [hq] at h5
    clear m4 h4 hq
    cases o1 with
    | true =>
      have ha : ∃ xx ps, Mir.addM q5.ps tb = some (xx, ps) ∧ xx = x ∧ { q5 with ps := ps } = p' := by
        have h := HM.out
        rw [if_pos rfl] at h
        cases hadd : Mir.addM q5.ps tb with
        | none => simp [hadd] at h
        | some r => obtain ⟨xx, ps⟩ := r; simp [hadd] at h; exact ⟨xx, ps, rfl, h.1, h.2⟩
      obtain ⟨xx, ps, ha, rfl, rfl⟩ := ha
      have HA : Hid (Mir.addM q5.ps tb = some (xx, ps)) := ha
      have HP : Hid (PSt w5 b s vp q5) := h5
      have hR5 : Blk w5 w.heap.size [.bool false, .int .u32 0, .int .u32 0] 134 := keepL (heap_alloc_new w _) (by omega) hvR m5
      clear ha HM h5
      go_wp2_with fail
      go_region_with (first | (go_at_call 164; refine ((H6 _).2.1).mono ?_; rintro e wA ⟨rfl, mA⟩) | (go_at_call 116; refine (ladd (HP.out.drew.no mA) tb HA.out).mono ?_; rintro e wB ⟨rfl, hx, hL⟩; have zR := hL.keep (hR5.drew.mod mA (fun x => x)) hbR hvR; have z0 := zR.cell 0 rfl; have z1 := zR.cell 1 rfl; have z2 := zR.cell 2 rfl; have g0 := zR.free 0; have g1 := zR.free 1; have g2 := zR.free 2))
      all_goals
        have HL : Hid (Led (w.alloc (Obj.cells #[.bool false, .int .u32 0, .int .u32 0] 134)) wB b s vp { q5 with ps := ps }) := Led.next (Fresh.refl _ _) (m5.drew.no mA) hL
        clear hL mA m5 hR5 HP zR
        go_wp2
        exact bodyPost_ret (v := .agg #[.bool xx.e, .int .u32 (xx.f : Int), .int .u32 (xx.l : Int)]) (by simp [results, Tryz.results163, go_sem, z0, z1, z2]) rfl ⟨rfl, hx, HL.out.fin hb HOWN.out _ _ _⟩
    | false =>
      have ha : ∃ xx ps, Mir.addM q5.ps ta = some (xx, ps) ∧ xx = x ∧ { q5 with ps := ps } = p' := by
        have h := HM.out
        rw [if_neg (by simp)] at h
        cases hadd : Mir.addM q5.ps ta with
        | none => simp [hadd] at h
        | some r => obtain ⟨xx, ps⟩ := r; simp [hadd] at h; exact ⟨xx, ps, rfl, h.1, h.2⟩
      obtain ⟨xx, ps, ha, rfl, rfl⟩ := ha
      have HA : Hid (Mir.addM q5.ps ta = some (xx, ps)) := ha
      have HP : Hid (PSt w5 b s vp q5) := h5
      have hR5 : Blk w5 w.heap.size [.bool false, .int .u32 0, .int .u32 0] 134 := keepL (heap_alloc_new w _) (by omega) hvR m5
      clear ha HM h5
      go_wp2_with fail
      go_region_with (first | (go_at_call 117; refine ((H6 _).2.2).mono ?_; rintro e wA ⟨rfl, mA⟩) | (go_at_call 116; refine (ladd (HP.out.drew.no mA) ta HA.out).mono ?_; rintro e wB ⟨rfl, hx, hL⟩; have zR := hL.keep (hR5.drew.mod mA (fun x => x)) hbR hvR; have z0 := zR.cell 0 rfl; have z1 := zR.cell 1 rfl; have z2 := zR.cell 2 rfl; have g0 := zR.free 0; have g1 := zR.free 1; have g2 := zR.free 2))
      all_goals
        have HL : Hid (Led (w.alloc (Obj.cells #[.bool false, .int .u32 0, .int .u32 0] 134)) wB b s vp { q5 with ps := ps }) := Led.next (Fresh.refl _ _) (m5.drew.no mA) hL
        clear hL mA m5 hR5 HP zR
        go_wp2
        exact bodyPost_ret (v := .agg #[.bool xx.e, .int .u32 (xx.f : Int), .int .u32 (xx.l : Int)]) (by simp [results, Tryz.results163, go_sem, z0, z1, z2]) rfl ⟨rfl, hx, HL.out.fin hb HOWN.out _ _ _⟩
  | false =>
    cases ri with
    | false =>
      have hM := HM.out
      rw [show (false || !false) = true from rfl, if_pos rfl] at hM
      generalize hq : Mir.failM q4 = q5 at hM
      have HM : Hid ((match Mir.addM q5.ps (if o1 = true then tb else ta) with | none => none | some (q, ps) => some (q, { q5 with ps := ps })) = some (x, p')) := hM
      clear hM
      go_wp2_with fail
      refine ((H6 _).1).mono ?_
      rintro e w9 ⟨rfl, n9, rfl⟩
      go_wp2_with fail
      refine (lfail (h4.drewN n9)).mono ?_
      rintro e w5 ⟨rfl, h5, m5⟩
      have m5 : Mod (Pt b vp) (w.alloc (Obj.cells #[.bool false, .int .u32 0, .int .u32 0] 134)) w5 := (m4.drewN n9).trans m5
      rw [hq] at h5
      clear m4 h4 hq
      cases o1 with
      | true =>
        have ha : ∃ xx ps, Mir.addM q5.ps tb = some (xx, ps) ∧ xx = x ∧ { q5 with ps := ps } = p' := by
          have h := HM.out
          rw [if_pos rfl] at h
          cases hadd : Mir.addM q5.ps tb with
          | none => simp [hadd] at h
          | some r => obtain ⟨xx, ps⟩ := r; simp [hadd] at h; exact ⟨xx, ps, rfl, h.1, h.2⟩
        obtain ⟨xx, ps, ha, rfl, rfl⟩ := ha
        have HA : Hid (Mir.addM q5.ps tb = some (xx, ps)) := ha
        have HP : Hid (PSt w5 b s vp q5) := h5
        have hR5 : Blk w5 w.heap.size [.bool false, .int .u32 0, .int .u32 0] 134 := keepL (heap_alloc_new w _) (by omega) hvR m5
        clear ha HM h5
        go_wp2_with fail
        go_region_with (first | (go_at_call 164; refine ((H6 _).2.1).mono ?_; rintro e wA ⟨rfl, mA⟩) | (go_at_call 116; refine (ladd (HP.out.drew.no mA) tb HA.out).mono ?_; rintro e wB ⟨rfl, hx, hL⟩; have zR := hL.keep (hR5.drew.mod mA (fun x => x)) hbR hvR; have z0 := zR.cell 0 rfl; have z1 := zR.cell 1 rfl; have z2 := zR.cell 2 rfl; have g0 := zR.free 0; have g1 := zR.free 1; have g2 := zR.free 2))
        all_goals
          have HL : Hid (Led (w.alloc (Obj.cells #[.bool false, .int .u32 0, .int .u32 0] 134)) wB b s vp { q5 with ps := ps }) := Led.next (Fresh.refl _ _) (m5.drew.no mA) hL
          clear hL mA m5 hR5 HP zR
          go_wp2
          exact bodyPost_ret (v := .agg #[.bool xx.e, .int .u32 (xx.f : Int), .int .u32 (xx.l : Int)]) (by simp [results, Tryz.results163, go_sem, z0, z1, z2]) rfl ⟨rfl, hx, HL.out.fin hb HOWN.out _ _ _⟩
      | false =>
        have ha : ∃ xx ps, Mir.addM q5.ps ta = some (xx, ps) ∧ xx = x ∧ { q5 with ps := ps } = p' := by
          have h := HM.out
          rw [if_neg (by simp)] at h
          cases hadd : Mir.addM q5.ps ta with
          | none => simp [hadd] at h
          | some r => obtain ⟨xx, ps⟩ := r; simp [hadd] at h; exact ⟨xx, ps, rfl, h.1, h.2⟩
        obtain ⟨xx, ps, ha, rfl, rfl⟩ := ha
        have HA : Hid (Mir.addM q5.ps ta = some (xx, ps)) := ha
        have HP : Hid (PSt w5 b s vp q5) := h5
        have hR5 : Blk w5 w.heap.size [.bool false, .int .u32 0, .int .u32 0] 134 := keepL (heap_alloc_new w _) (by omega) hvR m5
        clear ha HM h5
        go_wp2_with fail
        go_region_with (first | (go_at_call 117; refine ((H6 _).2.2).mono ?_; rintro e wA ⟨rfl, mA⟩) | (go_at_call 116; refine (ladd (HP.out.drew.no mA) ta HA.out).mono ?_; rintro e wB ⟨rfl, hx, hL⟩; have zR := hL.keep (hR5.drew.mod mA (fun x => x)) hbR hvR; have z0 := zR.cell 0 rfl; have z1 := zR.cell 1 rfl; have z2 := zR.cell 2 rfl; have g0 := zR.free 0; have g1 := zR.free 1; have g2 := zR.free 2))
        all_goals
          have HL : Hid (Led (w.alloc (Obj.cells #[.bool false, .int .u32 0, .int .u32 0] 134)) wB b s vp { q5 with ps := ps }) := Led.next (Fresh.refl _ _) (m5.drew.no mA) hL
          clear hL mA m5 hR5 HP zR
          go_wp2
          exact bodyPost_ret (v := .agg #[.bool xx.e, .int .u32 (xx.f : Int), .int .u32 (xx.l : Int)]) (by simp [results, Tryz.results163, go_sem, z0, z1, z2]) rfl ⟨rfl, hx, HL.out.fin hb HOWN.out _ _ _⟩
    | true =>
      have hM := HM.out
      rw [show (false || !true) = false from rfl, if_neg (by simp)] at hM
      generalize hq : q4 = q5 at hM
      have HM : Hid ((match Mir.addM q5.ps (if o1 = true then tb else ta) with | none => none | some (q, ps) => some (q, { q5 with ps := ps })) = some (x, p')) := hM
      clear hM
      go_wp2_with fail
      refine ((H6 _).1).mono ?_
      rintro e w9 ⟨rfl, n9, rfl⟩
      have m5 : Mod (Pt b vp) (w.alloc (Obj.cells #[.bool false, .int .u32 0, .int .u32 0] 134)) (w4.drewN n9) := m4.drewN n9
      have h5 := h4.drewN n9
      rw [hq] at h5
      generalize w4.drewN n9 = w5 at m5 h5 ⊢
      clear m4 h4 hq
      cases o1 with
      | true =>
        have ha : ∃ xx ps, Mir.addM q5.ps tb = some (xx, ps) ∧ xx = x ∧ { q5 with ps := ps } = p' := by
          have h := HM.out
          rw [if_pos rfl] at h
          cases hadd : Mir.addM q5.ps tb with
          | none => simp [hadd] at h
          | some r => obtain ⟨xx, ps⟩ := r; simp [hadd] at h; exact ⟨xx, ps, rfl, h.1, h.2⟩
        obtain ⟨xx, ps, ha, rfl, rfl⟩ := ha
        have HA : Hid (Mir.addM q5.ps tb = some (xx, ps)) := ha
        have HP : Hid (PSt w5 b s vp q5) := h5
        have hR5 : Blk w5 w.heap.size [.bool false, .int .u32 0, .int .u32 0] 134 := keepL (heap_alloc_new w _) (by omega) hvR m5
        clear ha HM h5
        go_wp2_with fail
        go_region_with (first | (go_at_call 164; refine ((H6 _).2.1).mono ?_; rintro e wA ⟨rfl, mA⟩) | (go_at_call 116; refine (ladd (HP.out.drew.no mA) tb HA.out).mono ?_; rintro e wB ⟨rfl, hx, hL⟩; have zR := hL.keep (hR5.drew.mod mA (fun x => x)) hbR hvR; have z0 := zR.cell 0 rfl; have z1 := zR.cell 1 rfl; have z2 := zR.cell 2 rfl; have g0 := zR.free 0; have g1 := zR.free 1; have g2 := zR.free 2))
        all_goals
          have HL : Hid (Led (w.alloc (Obj.cells #[.bool false, .int .u32 0, .int .u32 0] 134)) wB b s vp { q5 with ps := ps }) := Led.next (Fresh.refl _ _) (m5.drew.no mA) hL
          clear hL mA m5 hR5 HP zR
          go_wp2
          exact bodyPost_ret (v := .agg #[.bool xx.e, .int .u32 (xx.f : Int), .int .u32 (xx.l : Int)]) (by simp [results, Tryz.results163, go_sem, z0, z1, z2]) rfl ⟨rfl, hx, HL.out.fin hb HOWN.out _ _ _⟩
      | false =>
        have ha : ∃ xx ps, Mir.addM q5.ps ta = some (xx, ps) ∧ xx = x ∧ { q5 with ps := ps } = p' := by
          have h := HM.out
          rw [if_neg (by simp)] at h
          cases hadd : Mir.addM q5.ps ta with
          | none => simp [hadd] at h
          | some r => obtain ⟨xx, ps⟩ := r; simp [hadd] at h; exact ⟨xx, ps, rfl, h.1, h.2⟩
        obtain ⟨xx, ps, ha, rfl, rfl⟩ := ha
        have HA : Hid (Mir.addM q5.ps ta = some (xx, ps)) := ha
        have HP : Hid (PSt w5 b s vp q5) := h5
        have hR5 : Blk w5 w.heap.size [.bool false, .int .u32 0, .int .u32 0] 134 := keepL (heap_alloc_new w _) (by omega) hvR m5
        clear ha HM h5
        go_wp2_with fail
        go_region_with (first | (go_at_call 117; refine ((H6 _).2.2).mono ?_; rintro e wA ⟨rfl, mA⟩) | (go_at_call 116; refine (ladd (HP.out.drew.no mA) ta HA.out).mono ?_; rintro e wB ⟨rfl, hx, hL⟩; have zR := hL.keep (hR5.drew.mod mA (fun x => x)) hbR hvR; have z0 := zR.cell 0 rfl; have z1 := zR.cell 1 rfl; have z2 := zR.cell 2 rfl; have g0 := zR.free 0; have g1 := zR.free 1; have g2 := zR.free 2))
        all_goals
          have HL : Hid (Led (w.alloc (Obj.cells #[.bool false, .int .u32 0, .int .u32 0] 134)) wB b s vp { q5 with ps := ps }) := Led.next (Fresh.refl _ _) (m5.drew.no mA) hL
          clear hL mA m5 hR5 HP zR
          go_wp2
          exact bodyPost_ret (v := .agg #[.bool xx.e, .int .u32 (xx.f : Int), .int .u32 (xx.l : Int)]) (by simp [results, Tryz.results163, go_sem, z0, z1, z2]) rfl ⟨rfl, hx, HL.out.fin hb HOWN.out _ _ _⟩
end
end Go.Proofs.YtmbapmbpnnaanabGreatDoor
namespace Go.Proofs.YtmbapmbpnnaanabGreatDoor
open Go.RowKit
attribute [local go_sem ↓] Go.wp_at_zero Go.wp_at_succ
attribute [local go_sem] pieceV

def CtxAt (s : ByteArray) (f : Nat) : Prop := ∀ (w : World) (b : Nat) (vp : Value) (p : Mir.PS) (d : Nat) (x : Mir.Piece) (p' : Mir.PS), PSt w b s vp p → d ≤ 3 → Mir.ctxM s.data.toList f d p = some (x, p') →
  Calls Tryz.prog 119 #[.pointer (some ⟨b, 0, none⟩), .int .i64 (d : Int)] w fun e w' => Gives w b s vp x p' e w'
def RowAt (s : ByteArray) (f : Nat) : Prop := ∀ (w : World) (b : Nat) (vp : Value) (p : Mir.PS) (d : Nat) (x : Mir.Piece) (p' : Mir.PS), PSt w b s vp p → d ≤ 3 → Mir.rowM s.data.toList f d ⟨true, 0, 0⟩ p = some (x, p') →
  Calls Tryz.prog 142 #[.pointer (some ⟨b, 0, none⟩), .int .i64 (d : Int)] w fun e w' => Gives w b s vp x p' e w'
def PartAt (s : ByteArray) (f : Nat) : Prop := ∀ (w : World) (b : Nat) (vp : Value) (p : Mir.PS) (d : Nat) (x : Mir.Piece) (p' : Mir.PS), PSt w b s vp p → d ≤ 3 → Mir.partM s.data.toList f d p = some (x, p') →
  Calls Tryz.prog 157 #[.pointer (some ⟨b, 0, none⟩), .int .i64 (d : Int)] w fun e w' => Gives w b s vp x p' e w'

section
variable {w w1 w2 w' : World} {b : Nat} {s : ByteArray} {vp vp1 : Value} {p p1 p2 : Mir.PS}

/-- What 'brackets' reads. -/
def brM (l : List UInt8) (f d : Nat) (p : Mir.PS) : Option (Mir.Piece × Mir.PS) :=
  if 3 ≤ d then some (⟨false, 0, 0⟩, Mir.failM p) else
  match Mir.ctxM l f (d + 1) (Mir.takeM l 40 p) with
  | none => none
  | some (x, p1) => some (x, Mir.takeM l 41 p1)

set_option maxHeartbeats 2000000 in
set_option maxRecDepth 100000 in
theorem brackets_any (h : PSt w b s vp p) (hs : s.size ≤ 1048576) {f d : Nat} (hC : CtxAt s f) (hd : d ≤ 3) {x : Mir.Piece} {p' : Mir.PS} (hM : brM s.data.toList f d p = some (x, p')) :
    Calls Tryz.prog 162 #[.pointer (some ⟨b, 0, none⟩), .int .i64 (d : Int)] w fun e w' => Gives w b s vp x p' e w' := by
  have hb := h.lt
  have HOWN : Hid (∀ g, vp.ownBlock = some g → g < w.heap.size) := fun g hg => h.own (g := g) hg
  have hvR : vp.ownBlock ≠ some w.heap.size := fun e => by have := h.own e; omega
  have hbR : b ≠ w.heap.size := by omega
  unfold brM at hM
  by_cases h3 : 3 ≤ d
  · rw [if_pos h3] at hM
    simp only [Option.some.injEq, Prod.mk.injEq] at hM
    obtain ⟨rfl, rfl⟩ := hM
    have h3i : (3 : Int) ≤ (d : Int) := by omega
    have HF : Hid (∀ o, Calls Tryz.prog 118 #[.pointer (some ⟨b, 0, none⟩)] (w.alloc o) fun e w' => e = .returned (.tuple #[]) ∧ PSt w' b s vp (Mir.failM p) ∧ Mod (Pt b vp) (w.alloc o) w') := fun o => lfail (h.alloc o)
    clear h
    go_enter Tryz.func162, Tryz.ntmps162
    go_wp2_with fail
    refine (HF.out _).mono ?_
    rintro e w1 ⟨rfl, h1, m1⟩
    have zR : Blk w1 w.heap.size [.bool false, .int .u32 0, .int .u32 0] 134 := keepL (heap_alloc_new w _) (by omega) hvR m1
    have HL : Hid (Led (w.alloc (Obj.cells #[.bool false, .int .u32 0, .int .u32 0] 134)) w1 b s vp (Mir.failM p)) := h1.led m1
    have z0 := zR.cell 0 rfl
    have z1 := zR.cell 1 rfl
    have z2 := zR.cell 2 rfl
    have g0 := zR.free 0
    have g1 := zR.free 1
    have g2 := zR.free 2
    clear HF h1 m1 zR
    go_wp2
    exact bodyPost_ret (v := .agg #[.bool false, .int .u32 0, .int .u32 0]) (by simp [results, Tryz.results162, go_sem, z0, z1, z2]) rfl ⟨rfl, ⟨by decide, by decide⟩, HL.out.fin hb HOWN.out _ _ _⟩
  · rw [if_neg h3] at hM
    have h3i : ¬ (3 : Int) ≤ (d : Int) := by omega
    generalize e1 : Mir.takeM s.data.toList 40 p = q1 at hM
    have H1 : Hid (∀ o, Calls Tryz.prog 81 #[.pointer (some ⟨b, 0, none⟩), .int .u8 40] (w.alloc o) fun e w' => e = .returned (.tuple #[]) ∧ PSt w' b s vp q1 ∧ Mod (Pt b vp) (w.alloc o) w') := fun o => by
      have := ltake (h.alloc o) 40 hs
      rw [e1] at this; exact this
    clear e1 h
    cases hc : Mir.ctxM s.data.toList f (d + 1) q1 with
    | none => rw [hc] at hM; cases hM
    | some r =>
      obtain ⟨y, q2⟩ := r
      rw [hc] at hM
      simp only [Option.some.injEq, Prod.mk.injEq] at hM
      obtain ⟨rfl, rfl⟩ := hM
      have H2 : Hid (∀ wx, PSt wx b s vp q1 → Calls Tryz.prog 119 #[.pointer (some ⟨b, 0, none⟩), .int .i64 ((d : Int) + 1)] wx fun e w' => Gives wx b s vp y q2 e w') := fun wx hx => hC wx b vp q1 (d + 1) y q2 hx (by omega) hc
      have H3 : Hid (∀ wx vx, PSt wx b s vx q2 → Calls Tryz.prog 81 #[.pointer (some ⟨b, 0, none⟩), .int .u8 41] wx fun e w' => e = .returned (.tuple #[]) ∧ PSt w' b s vx (Mir.takeM s.data.toList 41 q2) ∧ Mod (Pt b vx) wx w') := fun wx vx hx => ltake hx 41 hs
      generalize Mir.takeM s.data.toList 41 q2 = q3 at H3 ⊢
      clear hc hC
      go_enter Tryz.func162, Tryz.ntmps162
      go_wp2_with fail
      refine (H1.out _).mono ?_
      rintro e w1 ⟨rfl, h1, m1⟩
      clear H1
      go_wp2_with fail
      refine (H2.out _ h1).mono ?_
      rintro e w2 ⟨rfl, hx, vp2, h2, f2, m2⟩
      have m2 : Mod (Pt b vp) (w.alloc (Obj.cells #[.bool false, .int .u32 0, .int .u32 0] 134)) w2 := m1.trans m2
      have f2 : Fresh (w.alloc (Obj.cells #[.bool false, .int .u32 0, .int .u32 0] 134)) vp vp2 := (Fresh.refl _ _).trans f2 m1.size
      have hv2R : vp2.ownBlock ≠ some w.heap.size := f2.old hvR (by simp)
      have hs2 := m2.size
      simp at hs2
      have hv22 : vp2.ownBlock ≠ some w2.heap.size := fun e => by have := h2.own e; omega
      have H3 : Hid (∀ o, Calls Tryz.prog 81 #[.pointer (some ⟨b, 0, none⟩), .int .u8 41] (w2.alloc o) fun e w' => e = .returned (.tuple #[]) ∧ PSt w' b s vp2 q3 ∧ Mod (Pt b vp2) (w2.alloc o) w') := fun o => H3.out _ vp2 (h2.alloc o)
      have zR : Blk w2 w.heap.size [.bool false, .int .u32 0, .int .u32 0] 134 := keepL (heap_alloc_new w _) (by omega) hvR m2
      clear H2 h1 m1
      go_wp2_with fail
      refine (H3.out _).mono ?_
      rintro e w3 ⟨rfl, h3, m3⟩
      clear H3
      have zI : Blk w3 w2.heap.size [.bool y.e, .int .u32 (y.f : Int), .int .u32 (y.l : Int)] 134 := keepL (heap_alloc_new w2 _) (by omega) hv22 m3
      have zR3 : Blk w3 w.heap.size [.bool false, .int .u32 0, .int .u32 0] 134 := keepL (zR.alloc _) (by omega) hv2R m3
      have HL : Hid (Led (w.alloc (Obj.cells #[.bool false, .int .u32 0, .int .u32 0] 134)) w3 b s vp q3) := Led.next f2 (m2.alloc _) (h3.led m3)
      have i0 := zI.cell 0 rfl
      have i1 := zI.cell 1 rfl
      have i2 := zI.cell 2 rfl
      have z0 := zR3.cell 0 rfl
      have z1 := zR3.cell 1 rfl
      have z2 := zR3.cell 2 rfl
      have g0 := zR3.free 0
      have g1 := zR3.free 1
      have g2 := zR3.free 2
      clear h2 f2 m2 h3 m3 zI zR zR3
      go_wp2
      exact bodyPost_ret (v := .agg #[.bool y.e, .int .u32 (y.f : Int), .int .u32 (y.l : Int)]) (by simp [results, Tryz.results162, go_sem, z0, z1, z2]) rfl ⟨rfl, hx, HL.out.fin hb HOWN.out _ _ _⟩
end
end Go.Proofs.YtmbapmbpnnaanabGreatDoor
namespace Go.Proofs.YtmbapmbpnnaanabGreatDoor
open Go.RowKit
attribute [local go_sem ↓] Go.wp_at_zero Go.wp_at_succ
attribute [local go_sem] pieceV

section
variable {w w1 w2 w' : World} {b : Nat} {s : ByteArray} {vp vp1 : Value} {p p1 p2 : Mir.PS}

set_option maxHeartbeats 2000000 in
set_option maxRecDepth 100000 in
theorem part_any (hs : s.size ≤ 1048576) {f : Nat} (hC : CtxAt s f) : PartAt s (f + 1) := by
  intro w b vp p d x p' h hd hM
  have hb := h.lt
  have HOWN : Hid (∀ g, vp.ownBlock = some g → g < w.heap.size) := fun g hg => h.own (g := g) hg
  have hvR : vp.ownBlock ≠ some w.heap.size := fun e => by have := h.own e; omega
  have hbR : b ≠ w.heap.size := by omega
  have HS1 : Hid (∀ wx, PSt wx b s vp p → Calls Tryz.prog 115 #[.pointer (some ⟨b, 0, none⟩), .int .u8 40] wx fun e w' => e = .returned (.bool (Mir.sees s.data.toList 40 p)) ∧ ∃ n, w' = wx.drewN n) := fun wx hx => lsees hx 40 hs
  have HS2 : Hid (∀ wx, PSt wx b s vp p → Calls Tryz.prog 115 #[.pointer (some ⟨b, 0, none⟩), .int .u8 91] wx fun e w' => e = .returned (.bool (Mir.sees s.data.toList 91 p)) ∧ ∃ n, w' = wx.drewN n) := fun wx hx => lsees hx 91 hs
  have HS3 : Hid (∀ wx, PSt wx b s vp p → Calls Tryz.prog 83 #[.pointer (some ⟨b, 0, none⟩), .int .u8 46] wx fun e w' => e = .returned (.bool (Mir.sees s.data.toList 46 p)) ∧ PSt w' b s vp (Mir.skipM s.data.toList 46 p) ∧ Mod (Pt b vp) wx w') := fun wx hx => lskip hx 46 hs
  have h5 : PSt (w.alloc (Obj.cells #[.bool false, .int .u32 0, .int .u32 0] 134)) b s vp p := h.alloc _
  have m5 : Mod (Pt b vp) (w.alloc (Obj.cells #[.bool false, .int .u32 0, .int .u32 0] 134)) (w.alloc (Obj.cells #[.bool false, .int .u32 0, .int .u32 0] 134)) := Mod.refl _ _
  have hR5 : Blk (w.alloc (Obj.cells #[.bool false, .int .u32 0, .int .u32 0] 134)) w.heap.size [.bool false, .int .u32 0, .int .u32 0] 134 := heap_alloc_new w _
  clear h
  rw [show Mir.partM s.data.toList (f + 1) d p = (if Mir.sees s.data.toList 40 p then brM s.data.toList f d p else if Mir.sees s.data.toList 91 p then Mir.setM s.data.toList p else if Mir.sees s.data.toList 46 p then (match Mir.addM p.ps (Mir.allBut []) with | none => none | some (q, ps) => some (q, { p with k := p.k + 1, ps := ps })) else (match Mir.addM (Mir.letterM s.data.toList p).2.ps (Mir.allOf (Mir.letterM s.data.toList p).1 Mir.none4) with | none => none | some (q, ps) => some (q, { (Mir.letterM s.data.toList p).2 with ps := ps }))) from rfl] at hM
  cases c1 : Mir.sees s.data.toList 40 p with
  | true =>
    rw [c1, if_pos rfl] at hM
    rw [c1] at HS1
    have HB : Hid (∀ wx, PSt wx b s vp p → Calls Tryz.prog 162 #[.pointer (some ⟨b, 0, none⟩), .int .i64 (d : Int)] wx fun e w' => Gives wx b s vp x p' e w') := fun wx hx => brackets_any hx hs hC hd hM
    clear hM HS2 HS3 c1
    go_enter Tryz.func157, Tryz.ntmps157
    go_wp2_with fail
    refine (HS1.out _ h5).mono ?_
    rintro e w9 ⟨rfl, n9, rfl⟩
    have m5 := m5.drewN n9
    have h5 := h5.drewN n9
    have hR5 := hR5.drewN n9
    generalize (w.alloc (Obj.cells #[.bool false, .int .u32 0, .int .u32 0] 134)).drewN n9 = w5 at m5 h5 hR5 ⊢
    go_wp2_with fail
    refine (HB.out _ h5).mono ?_
    rintro e w6 ⟨rfl, hx, hL⟩
    clear HB HS1
    have zR := hL.keep hR5 hbR hvR
    have HL : Hid (Led (w.alloc (Obj.cells #[.bool false, .int .u32 0, .int .u32 0] 134)) w6 b s vp p') := Led.next (Fresh.refl _ _) m5 hL
    have z0 := zR.cell 0 rfl
    have z1 := zR.cell 1 rfl
    have z2 := zR.cell 2 rfl
    have g0 := zR.free 0
    have g1 := zR.free 1
    have g2 := zR.free 2
    clear hL m5 hR5 zR h5
    go_wp2
    exact bodyPost_ret (v := .agg #[.bool x.e, .int .u32 (x.f : Int), .int .u32 (x.l : Int)]) (by simp [results, Tryz.results157, go_sem, z0, z1, z2]) rfl ⟨rfl, hx, HL.out.fin hb HOWN.out _ _ _⟩
  | false =>
    rw [c1, if_neg (by simp)] at hM
    rw [c1] at HS1
    cases c2 : Mir.sees s.data.toList 91 p with
    | true =>
      rw [c2, if_pos rfl] at hM
      rw [c2] at HS2
      have HB : Hid (∀ wx, PSt wx b s vp p → Calls Tryz.prog 163 #[.pointer (some ⟨b, 0, none⟩)] wx fun e w' => Gives wx b s vp x p' e w') := fun wx hx => set_any hx hs hM
      clear hM HS3 c1 c2
      go_enter Tryz.func157, Tryz.ntmps157
      go_wp2_with fail
      refine (HS1.out _ h5).mono ?_
      rintro e w9 ⟨rfl, n9, rfl⟩
      have m5 := m5.drewN n9
      have h5 := h5.drewN n9
      have hR5 := hR5.drewN n9
      generalize (w.alloc (Obj.cells #[.bool false, .int .u32 0, .int .u32 0] 134)).drewN n9 = w5 at m5 h5 hR5 ⊢
      go_wp2_with fail
      refine (HS2.out _ h5).mono ?_
      rintro e w9 ⟨rfl, n9, rfl⟩
      have m5 := m5.drewN n9
      have h5 := h5.drewN n9
      have hR5 := hR5.drewN n9
      generalize w5.drewN n9 = w5 at m5 h5 hR5 ⊢
      go_wp2_with fail
      refine (HB.out _ h5).mono ?_
      rintro e w6 ⟨rfl, hx, hL⟩
      clear HB HS1 HS2
      have zR := hL.keep hR5 hbR hvR
      have HL : Hid (Led (w.alloc (Obj.cells #[.bool false, .int .u32 0, .int .u32 0] 134)) w6 b s vp p') := Led.next (Fresh.refl _ _) m5 hL
      have z0 := zR.cell 0 rfl
      have z1 := zR.cell 1 rfl
      have z2 := zR.cell 2 rfl
      have g0 := zR.free 0
      have g1 := zR.free 1
      have g2 := zR.free 2
      clear hL m5 hR5 zR h5
      go_wp2
      exact bodyPost_ret (v := .agg #[.bool x.e, .int .u32 (x.f : Int), .int .u32 (x.l : Int)]) (by simp [results, Tryz.results157, go_sem, z0, z1, z2]) rfl ⟨rfl, hx, HL.out.fin hb HOWN.out _ _ _⟩
    | false =>
      rw [c2, if_neg (by simp)] at hM
      rw [c2] at HS2
      cases c3 : Mir.sees s.data.toList 46 p with
      | true =>
        rw [c3, if_pos rfl] at hM
        rw [c3, show Mir.skipM s.data.toList 46 p = { p with k := p.k + 1 } by unfold Mir.skipM; rw [if_pos c3]] at HS3
        have HB : Hid (∀ wx, Calls Tryz.prog 164 #[.string ⟨#[]⟩] wx fun e w' => e = .returned (b4V (Mir.allBut [])) ∧ Mod No wx w') := fun wx => allBut_any ⟨#[]⟩ wx (by decide)
        generalize Mir.allBut [] = tb at hM HB
        have ha : ∃ xx ps, Mir.addM p.ps tb = some (xx, ps) ∧ xx = x ∧ { p with k := p.k + 1, ps := ps } = p' := by
          cases hadd : Mir.addM p.ps tb with
          | none => simp [hadd] at hM
          | some r => obtain ⟨xx, ps⟩ := r; simp [hadd] at hM; exact ⟨xx, ps, rfl, hM.1, hM.2⟩
        obtain ⟨xx, ps, ha, rfl, rfl⟩ := ha
        have HA : Hid (Mir.addM p.ps tb = some (xx, ps)) := ha
        clear ha hM
        clear c1 c2 c3
        go_enter Tryz.func157, Tryz.ntmps157
        go_wp2_with fail
        refine (HS1.out _ h5).mono ?_
        rintro e w9 ⟨rfl, n9, rfl⟩
        have m5 := m5.drewN n9
        have h5 := h5.drewN n9
        have hR5 := hR5.drewN n9
        generalize (w.alloc (Obj.cells #[.bool false, .int .u32 0, .int .u32 0] 134)).drewN n9 = w5 at m5 h5 hR5 ⊢
        go_wp2_with fail
        refine (HS2.out _ h5).mono ?_
        rintro e w9 ⟨rfl, n9, rfl⟩
        have m5 := m5.drewN n9
        have h5 := h5.drewN n9
        have hR5 := hR5.drewN n9
        generalize w5.drewN n9 = w5 at m5 h5 hR5 ⊢
        go_wp2_with fail
        refine (HS3.out _ h5).mono ?_
        rintro e w6 ⟨rfl, h6, m6⟩
        have hR5 := keepL hR5 (fun e => hbR e.symm) hvR m6
        have m5 := m5.trans m6
        have HP : Hid (PSt w6 b s vp { p with k := p.k + 1 }) := h6
        clear h5 h6 m6 HS1 HS2 HS3
        go_wp2_with fail
        go_region_with (first | (go_at_call 164; refine ((HB.out _)).mono ?_; rintro e wA ⟨rfl, mA⟩) | (go_at_call 116; refine (ladd (HP.out.drew.no mA) tb HA.out).mono ?_; rintro e wB ⟨rfl, hx, hL⟩; have zR := hL.keep (hR5.drew.mod mA (fun x => x)) hbR hvR; have z0 := zR.cell 0 rfl; have z1 := zR.cell 1 rfl; have z2 := zR.cell 2 rfl; have g0 := zR.free 0; have g1 := zR.free 1; have g2 := zR.free 2))
        all_goals
          have HL : Hid (Led (w.alloc (Obj.cells #[.bool false, .int .u32 0, .int .u32 0] 134)) wB b s vp { p with k := p.k + 1, ps := ps }) := Led.next (Fresh.refl _ _) (m5.drew.no mA) hL
          clear hL mA m5 hR5 HP zR
          go_wp2
          exact bodyPost_ret (v := .agg #[.bool xx.e, .int .u32 (xx.f : Int), .int .u32 (xx.l : Int)]) (by simp [results, Tryz.results157, go_sem, z0, z1, z2]) rfl ⟨rfl, hx, HL.out.fin hb HOWN.out _ _ _⟩
      | false =>
        rw [c3, if_neg (by simp)] at hM
        rw [c3, show Mir.skipM s.data.toList 46 p = p by unfold Mir.skipM; rw [c3, if_neg (by simp)]] at HS3
        have HLT : Hid (∀ wx, PSt wx b s vp p → Calls Tryz.prog 165 #[.pointer (some ⟨b, 0, none⟩)] wx fun e w' => e = .returned (.string ⟨(Mir.letterM s.data.toList p).1.toArray⟩) ∧ PSt w' b s vp (Mir.letterM s.data.toList p).2 ∧ Mod (Pt b vp) wx w') := fun wx hx => lletter hx hs
        have HB : Hid (∀ wx, Calls Tryz.prog 117 #[.string ⟨(Mir.letterM s.data.toList p).1.toArray⟩] wx fun e w' => e = .returned (b4V (Mir.allOf (Mir.letterM s.data.toList p).1 Mir.none4)) ∧ Mod No wx w') := fun wx => allOf_any ⟨(Mir.letterM s.data.toList p).1.toArray⟩ wx (by
          show (Mir.letterM s.data.toList p).1.toArray.size ≤ 1048576
          unfold Mir.letterM
          split
          · simp
          · split <;> simp)
        generalize Mir.letterM s.data.toList p = r at hM HLT HB
        obtain ⟨rl, q3⟩ := r
        simp only at hM HLT HB
        generalize Mir.allOf rl Mir.none4 = ta at hM HB
        generalize (⟨rl.toArray⟩ : ByteArray) = S at HLT HB
        have ha : ∃ xx ps, Mir.addM q3.ps ta = some (xx, ps) ∧ xx = x ∧ { q3 with ps := ps } = p' := by
          cases hadd : Mir.addM q3.ps ta with
          | none => simp [hadd] at hM
          | some r => obtain ⟨xx, ps⟩ := r; simp [hadd] at hM; exact ⟨xx, ps, rfl, hM.1, hM.2⟩
        obtain ⟨xx, ps, ha, rfl, rfl⟩ := ha
        have HA : Hid (Mir.addM q3.ps ta = some (xx, ps)) := ha
        clear ha hM
        clear c1 c2 c3
        go_enter Tryz.func157, Tryz.ntmps157
        go_wp2_with fail
        refine (HS1.out _ h5).mono ?_
        rintro e w9 ⟨rfl, n9, rfl⟩
        have m5 := m5.drewN n9
        have h5 := h5.drewN n9
        have hR5 := hR5.drewN n9
        generalize (w.alloc (Obj.cells #[.bool false, .int .u32 0, .int .u32 0] 134)).drewN n9 = w5 at m5 h5 hR5 ⊢
        go_wp2_with fail
        refine (HS2.out _ h5).mono ?_
        rintro e w9 ⟨rfl, n9, rfl⟩
        have m5 := m5.drewN n9
        have h5 := h5.drewN n9
        have hR5 := hR5.drewN n9
        generalize w5.drewN n9 = w5 at m5 h5 hR5 ⊢
        go_wp2_with fail
        refine (HS3.out _ h5).mono ?_
        rintro e w6 ⟨rfl, h6, m6⟩
        have hR5 := keepL hR5 (fun e => hbR e.symm) hvR m6
        have m5 := m5.trans m6
        clear h5 HS1 HS2 HS3 m6
        go_wp2_with fail
        refine (HLT.out _ h6).mono ?_
        rintro e w7 ⟨rfl, h7, m7⟩
        have hR5 := keepL hR5 (fun e => hbR e.symm) hvR m7
        have m5 := m5.trans m7
        have HP : Hid (PSt w7 b s vp q3) := h7
        clear h6 h7 m7 HLT
        go_wp2_with fail
        go_region_with (first | (go_at_call 117; refine ((HB.out _)).mono ?_; rintro e wA ⟨rfl, mA⟩) | (go_at_call 116; refine (ladd (HP.out.drew.no mA) ta HA.out).mono ?_; rintro e wB ⟨rfl, hx, hL⟩; have zR := hL.keep (hR5.drew.mod mA (fun x => x)) hbR hvR; have z0 := zR.cell 0 rfl; have z1 := zR.cell 1 rfl; have z2 := zR.cell 2 rfl; have g0 := zR.free 0; have g1 := zR.free 1; have g2 := zR.free 2))
        all_goals
          have HL : Hid (Led (w.alloc (Obj.cells #[.bool false, .int .u32 0, .int .u32 0] 134)) wB b s vp { q3 with ps := ps }) := Led.next (Fresh.refl _ _) (m5.drew.no mA) hL
          clear hL mA m5 hR5 HP zR
          go_wp2
          exact bodyPost_ret (v := .agg #[.bool xx.e, .int .u32 (xx.f : Int), .int .u32 (xx.l : Int)]) (by simp [results, Tryz.results157, go_sem, z0, z1, z2]) rfl ⟨rfl, hx, HL.out.fin hb HOWN.out _ _ _⟩
end
end Go.Proofs.YtmbapmbpnnaanabGreatDoor
