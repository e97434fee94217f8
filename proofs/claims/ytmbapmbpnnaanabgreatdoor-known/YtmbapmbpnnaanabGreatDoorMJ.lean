import Derived.Test.YtmbapmbpnnaanabGreatDoorMG
namespace Go.Proofs.YtmbapmbpnnaanabGreatDoor
open Go.RowKit
attribute [local go_sem ↓] Go.wp_at_zero Go.wp_at_succ

theorem Tryz.info149 : (Tryz.prog.info? 149).map (fun i => (i.zero, i.size, i.bytes)) = some (some (.agg #[.int .i64 0, .string ⟨#[]⟩]), 2, 24) := by kernel_rfl
theorem addA_len (a b : M2.Auto) : (M2.addA a b).nx.length = a.nx.length + b.nx.length ∧ (M2.addA a b).hit.length = a.hit.length + b.hit.length := by simp [M2.addA]

set_option maxHeartbeats 1600000 in
set_option maxRecDepth 100000 in
theorem newView_any (w : World) (base : Nat) (vr : Value) (prs : List (Mir.Rule × Value)) (hru : Rules w base vr prs) (hp4 : prs.length ≤ 4) (hp0 : 0 < prs.length) {res : Option M2.View} (hM : M3.view (prs.map Prod.fst) = some res) :
    Calls Tryz.prog 34 #[vr] w fun e w' => NPost res w e w' := by
  obtain ⟨n, hn⟩ : ∃ n, n = prs.length := ⟨_, rfl⟩
  obtain ⟨ra, rcap, hvr, -, -⟩ := hru.row.open hn.symm
  obtain ⟨gr, hgr⟩ : ∃ g, ra = some ⟨g, 0, none⟩ := by
    obtain ⟨g2, c2, h2, -⟩ := hru.row.form hp0
    rw [hvr] at h2
    injection h2 with h2 _
    exact ⟨g2, h2⟩
  subst hgr
  have HRU : Hid (Rules w base vr prs) := hru
  have HVR : Hid (vr = .slice (some ⟨gr, 0, none⟩) n rcap) := hvr
  have HN : Hid (n = prs.length) := hn
  have HM : Hid (∃ lr, M3.leasts ((prs.map Prod.fst).drop 0) ⟨[], []⟩ [] = some lr ∧ ((lr = none ∧ res = none) ∨ ∃ a ss, lr = some (a, ss) ∧ ((60 < a.nx.length ∧ res = none) ∨ (¬ 60 < a.nx.length ∧ 0 < a.nx.length ∧ (∀ s ∈ ss, s < 60) ∧ ((M2.kindsM a = some none ∧ res = none) ∨ ∃ k d, M2.kindsM a = some (some k) ∧ M2.deedsGo (prs.map Prod.fst) ss k k.ahead.length 0 = some d ∧ M3.vOkB ⟨k, d⟩ = true ∧ res = some ⟨k, d⟩))))) := by
    unfold M3.view at hM
    split at hM
    · cases hM
    · rename_i h
      exact ⟨none, h, Or.inl ⟨rfl, (Option.some.inj hM).symm⟩⟩
    · rename_i a ss h
      refine ⟨some (a, ss), h, Or.inr ⟨a, ss, rfl, ?_⟩⟩
      split at hM
      · rename_i h60
        exact Or.inl ⟨h60, (Option.some.inj hM).symm⟩
      · rename_i h60
        split at hM
        · cases hM
        · rename_i h0
          split at hM
          · cases hM
          · rename_i hs
            have h0' : 0 < a.nx.length := by
              cases hq : a.nx with
              | nil => rw [hq] at h0; simp at h0
              | cons x y => simp
            have hs' : ∀ s ∈ ss, s < 60 := by
              simp at hs
              exact hs
            refine Or.inr ⟨h60, h0', hs', ?_⟩
            split at hM
            · cases hM
            · rename_i hk
              exact Or.inl ⟨hk, (Option.some.inj hM).symm⟩
            · rename_i k hk
              split at hM
              · cases hM
              · rename_i d hd
                split at hM
                · rename_i hv
                  exact Or.inr ⟨k, d, hk, hd, hv, (Option.some.inj hM).symm⟩
                · cases hM
  obtain ⟨lr, hlr, hrest⟩ := HM.out
  have HL0 : Hid (M3.leasts ((prs.map Prod.fst).drop 0) ⟨[], []⟩ [] = some lr) := hlr
  have HREST : Hid ((lr = none ∧ res = none) ∨ ∃ a ss, lr = some (a, ss) ∧ ((60 < a.nx.length ∧ res = none) ∨ (¬ 60 < a.nx.length ∧ 0 < a.nx.length ∧ (∀ s ∈ ss, s < 60) ∧ ((M2.kindsM a = some none ∧ res = none) ∨ ∃ k d, M2.kindsM a = some (some k) ∧ M2.deedsGo (prs.map Prod.fst) ss k k.ahead.length 0 = some d ∧ M3.vOkB ⟨k, d⟩ = true ∧ res = some ⟨k, d⟩)))) := hrest
  have hn4 : n ≤ 4 := by omega
  clear hru hM HM hlr hrest hn hp4 hp0
  rw [hvr]
  clear hvr
  have HI0 : Hid (∀ A B, A = Obj.cells #[nilS, nilS, nilS, nilS] 90 → B = Obj.cells #[nilS, nilS] 142 → NI w nilS nilS nilS [] ⟨[], []⟩ ((w.alloc A).alloc B)) := by
    intro A B hA hB
    subst hA hB
    exact ⟨new2_0 w _ _, new2_1 w _ _, Row.nil _ _, Row.nil _ _, Row.nil _ _, ((Mod.refl _ _).alloc _).alloc _, fun g hg => (by cases hg), fun g hg => (by cases hg), fun g hg => (by cases hg)⟩
  go_enter Tryz.func34, Tryz.ntmps34
  go_wp2_with fail
  have HI1 : Hid (NI w nilS nilS nilS [] ⟨[], []⟩ _) := HI0.out _ _ rfl rfl
  clear HI0
  go_loopg [5, 17] n (fun gh v5 v17 wr => ∃ (i : Nat) (lx lh : Value) (ss : List Nat) (au : M2.Auto), i ≤ n ∧ gh = n - i ∧ v17 = .int .i64 (i : Int) ∧ M3.leasts ((prs.map Prod.fst).drop i) au ss = some lr ∧ NI w v5 lx lh ss au wr ∧ au.nx.length = au.hit.length ∧ au.nx.length ≤ 60 * i ∧ ss.length = i)
  case atStart => exact ⟨0, nilS, nilS, [], ⟨[], []⟩, by omega, by omega, rfl, HL0.out, HI1.out, rfl, by simp, rfl⟩
  case round =>
    obtain ⟨i, lx, lh, ss, au, hin, hgk, rfl, hle, hI, hlen, h60, hssl⟩ := hrel
    have HI : Hid (NI w u5 lx lh ss au wr) := hI
    clear HI1 HL0
    by_cases hlt : i < n
    · obtain ⟨p, hp⟩ : ∃ p, prs[i]? = some p := ⟨prs[i]'(by have := HN.out; omega), List.getElem?_eq_getElem _⟩
      have hrow := (HRU.out.no hI.md).row
      rw [HVR.out] at hrow
      have hrok := HRU.out.all p (List.mem_of_getElem? hp)
      have hstep := leasts_step (r := p.1) (by rw [List.getElem?_map, hp]; rfl) hle
      obtain ⟨pa, pc, hpv, -, -⟩ := hrok.row.open rfl
      obtain ⟨ru, pv⟩ := p
      simp only at hrok hstep hpv
      have r0 : wr.cell? ⟨gr, i * 6, none⟩ = some (.string ⟨ru.fr.toArray⟩) := hrow.cell i 0 hp rfl
      have r1 : wr.cell? ⟨gr, i * 6 + 1, none⟩ = some (.string ⟨ru.tt.toArray⟩) := hrow.cell i 1 hp rfl
      have r2 : wr.cell? ⟨gr, i * 6 + 2, none⟩ = some pv := hrow.cell i 2 hp rfl
      have r3 : wr.cell? ⟨gr, i * 6 + 3, none⟩ = some (.bool ru.wh.e) := hrow.cell i 3 hp rfl
      have r4 : wr.cell? ⟨gr, i * 6 + 4, none⟩ = some (.int .u32 (ru.wh.f : Int)) := hrow.cell i 4 hp rfl
      have r5 : wr.cell? ⟨gr, i * 6 + 5, none⟩ = some (.int .u32 (ru.wh.l : Int)) := hrow.cell i 5 hp rfl
      have HLE : Hid (∀ wx res, Mod No w wx → M2.leastM ru = some res → Calls Tryz.prog 56 #[.agg #[pv, .bool ru.wh.e, .int .u32 (ru.wh.f : Int), .int .u32 (ru.wh.l : Int)]] wx fun e w' => LeastPost res wx e w') := fun wx res hm hM => least_any wx pv base ru (hrok.mod hm (fun _ _ x => x)) hM
      generalize ru.ps.length = pn at hpv
      subst hpv
      have HSTEP : Hid ((M2.leastM ru = some none ∧ lr = none) ∨ ∃ b, M2.leastM ru = some (some b) ∧ M3.smallA b = true ∧ M3.leasts ((prs.map Prod.fst).drop (i + 1)) (M2.addA au b) (ss ++ [au.nx.length]) = some lr) := hstep
      have hii : (i : Int) < (n : Int) := by omega
      generalize (⟨ru.fr.toArray⟩ : ByteArray) = FR at r0
      generalize (⟨ru.tt.toArray⟩ : ByteArray) = TT at r1
      obtain ⟨a5, c5, h5, -, -⟩ := hI.st.open hssl
      clear hI hrow hrok hstep hp hle
      go_wp2_with fail
      rcases HSTEP.out with ⟨hno, hlrn⟩ | ⟨b, hb, hsm, hnext⟩
      · refine (HLE.out _ none (HI.out.md.alloc _) hno).mono ?_
        rintro e w2 ⟨m2, he⟩
        have he : e = .returned (.tuple #[.agg #[.slice none 0 0, .slice none 0 0], .bool false]) := he
        subst he
        obtain rfl : res = none := by
          rcases HREST.out with ⟨-, h⟩ | ⟨a, s2, h, -⟩
          · exact h
          · rw [hlrn] at h; cases h
        have HI2 : Hid (NI w u5 lx lh ss au w2) := (HI.out.no ((Mod.refl _ _).alloc _)).no m2
        have z0 := HI2.out.res.cellA 0 rfl
        have z1 := HI2.out.res.cellA 1 rfl
        have z2 := HI2.out.res.cellA 2 rfl
        have z3 := HI2.out.res.cellA 3 rfl
        have f0 := HI2.out.res.freeA 0
        have f1 := HI2.out.res.freeA 1
        have f2 := HI2.out.res.freeA 2
        have f3 := HI2.out.res.freeA 3
        clear m2 HLE HSTEP HI r0 r1 r2 r3 r4 r5
        go_wp2
        refine bodyPost_ret (v := .tuple #[.agg #[nilS, nilS, nilS, nilS], .bool false]) (by simp [results, Tryz.results34, go_sem, z0, z1, z2, z3]) rfl ⟨?_, rfl⟩
        exact ((((HI2.out.md.alloc _).setCell (a := ⟨w.heap.size, 0, none⟩) (fun e => absurd e (by simp)) _).setCell (a := ⟨w.heap.size, 1, none⟩) (fun e => absurd e (by simp)) _).setCell (a := ⟨w.heap.size, 2, none⟩) (fun e => absurd e (by simp)) _).setCell (a := ⟨w.heap.size, 3, none⟩) (fun e => absurd e (by simp)) _
      · refine (HLE.out _ (some b) (HI.out.md.alloc _) hb).mono ?_
        rintro e w2 ⟨m2, ux, uh, rfl, hux, huh, fux, fuh, hul, hub⟩
        obtain ⟨hs60, hs0, hsm4⟩ := smallA_of hsm
        have m1 : Mod No wr w2 := ((Mod.refl _ _).alloc _).no m2
        have hfx : ∀ g, lx.ownBlock = some g → ux.ownBlock ≠ some g := fun g h1 h2 => by have h3 := HI.out.nx.lt h1; have h4 := fux g h2; simp at h4; omega
        have hfh : ∀ g, lh.ownBlock = some g → uh.ownBlock ≠ some g := fun g h1 h2 => by have h3 := HI.out.hit.lt h1; have h4 := fuh g h2; simp at h4; omega
        obtain ⟨L, hL⟩ : ∃ L, L = au.nx.length := ⟨_, rfl⟩
        obtain ⟨xa, xc, hlx, -, -⟩ := HI.out.nx.open hL.symm
        obtain ⟨ua, uc, huxv, -, -⟩ := hux.open rfl
        obtain ⟨va, vc, huhv, -, -⟩ := huh.open rfl
        rw [← hul] at huhv
        generalize hBn : b.nx.length = bn at huxv huhv hs60 hs0 hul
        have HI2 : Hid (NI w u5 lx lh ss au w2) := HI.out.no m1
        have HU : Hid (Row R4E w2 ux b.nx ∧ Row BoE w2 uh b.hit ∧ ux = .slice ua bn uc ∧ uh = .slice va bn vc) := ⟨hux, huh, huxv, huhv⟩
        have HF : Hid ((∀ g, lx.ownBlock = some g → ux.ownBlock ≠ some g) ∧ (∀ g, lh.ownBlock = some g → uh.ownBlock ≠ some g)) := ⟨hfx, hfh⟩
        have HB : Hid (b.nx.length = bn ∧ b.nx.length = b.hit.length ∧ ∀ r ∈ b.nx, ∀ l, l < 4 → r4g r l ≤ 300000) := ⟨hBn, by omega, hsm4⟩
        have HNEXT : Hid (M3.leasts ((prs.map Prod.fst).drop (i + 1)) (M2.addA au b) (ss ++ [au.nx.length]) = some lr) := hnext
        have HLX : Hid (lx = .slice xa L xc ∧ L = au.nx.length) := ⟨hlx, hL⟩
        have k0 := HI2.out.aut.cellA 0 rfl
        rw [hlx] at k0
        have hown : w2.ownsRow 0 3 1 (.slice a5 i c5) i (ss.flatMap InE.f) := by
          have h2 : w2.ownsRow 0 3 1 u5 ss.length (ss.flatMap InE.f) := HI2.out.st
          rwa [hssl, h5] at h2
        obtain ⟨i0, hinf, hz0, hz1, hz2⟩ := info_parts Tryz.info3
        have HU5 : Hid (u5 = .slice a5 i c5) := h5
        have hL2 : L ≤ 60 * i := by omega
        have HLN : Hid (au.nx.length = au.hit.length) := hlen
        have HSS : Hid (ss.length = i) := hssl
        subst huxv huhv
        clear m2 hux huh fux fuh m1 hfx hfh hBn hsm4 hsm hnext hb hul hub HLE HSTEP HI r0 r1 r2 r3 r4 r5 hlx hL hlen h60 hssl
        subst h5
        go_wp2_with (at_builtin; refine wpList_append_lies _ rfl _ _ 99 rfl 0 3 i0 _ 1 8 Tryz.underlying99 hinf hz0 hz1 hz2 rfl (by omega) (.slice a5 i c5) i (ss.flatMap InE.f) rfl ((hown.alloc _).alloc _) ⟨w2.heap.size + 1, 0, none⟩ 1 1 [.int .i64 (L : Int)] rfl rfl (World.news_of_block (cs := #[.int .i64 (L : Int)]) (t := 3) (fr := (0, 0)) (new2_1 w2 _ _)) (by intro u hu; simp at hu; rw [hu]; rfl) (by omega) (by unfold maxLen; omega) (by omega) (by simp) (w2.heap.size + 2) (by simp) ?_)
        intro gg cap2 w4 hown4 hgrow hat hltt
        have hr4 : Row InE w4 (.slice (some ⟨gg, 0, none⟩) (i + 1) cap2) (ss ++ [au.nx.length]) := app_row HSS.out (by rw [← HLX.out.2]; rfl) hown4
        have hm4 : Mod No w2 ((w2.alloc (Obj.cells #[.slice ua bn uc, .slice va bn vc] 142)).alloc (Obj.cells #[.int .i64 (L : Int)] 3)) := ((Mod.refl _ _).alloc _).alloc _
        have hI3 := HI2.out.no hm4
        have hf4 : Fresh ((w2.alloc (Obj.cells #[.slice ua bn uc, .slice va bn vc] 142)).alloc (Obj.cells #[.int .i64 (L : Int)] 3)) (.slice a5 i c5) (.slice (some ⟨gg, 0, none⟩) (i + 1) cap2) := app_fresh (H := w2.heap.size + 2) hat (by simp)
        have HI4 : Hid (NI w (.slice (some ⟨gg, 0, none⟩) (i + 1) cap2) lx lh (ss ++ [au.nx.length]) au w4) := hI3.start hgrow hr4 hf4
        have hb3 : Blk ((w2.alloc (Obj.cells #[.slice ua bn uc, .slice va bn vc] 142)).alloc (Obj.cells #[.int .i64 (L : Int)] 3)) w2.heap.size [.slice ua bn uc, .slice va bn vc] 142 := new2_0 w2 _ _
        have hb4 : Blk w4 w2.heap.size [.slice ua bn uc, .slice va bn vc] 142 := hb3.grown hgrow (fun e => hb3.apart hI3.st (by decide) e.symm)
        have hx4 : Row R4E w4 (.slice ua bn uc) b.nx := (HU.out.1.no hm4).grown hgrow ((HU.out.1.no hm4).far hI3.st (by decide))
        have hh4 : Row BoE w4 (.slice va bn vc) b.hit := (HU.out.2.1.no hm4).grown hgrow ((HU.out.2.1.no hm4).far hI3.st (by decide))
        have h19 := addA_any w4 (w.heap.size + 1) lx lh (.slice ua bn uc) (.slice va bn vc) au b HI4.out.aut HI4.out.nx HI4.out.hit hx4 hh4 HF.out.1 HF.out.2 HB.out.2.1 HLN.out (by have := HB.out.1; have := HLX.out.2; omega) HB.out.2.2
        have y0 := hb4.cell 0 rfl
        have y1 := hb4.cell 1 rfl
        clear hr4 hm4 hI3 hf4 hb3 hb4 hx4 hh4 hown4 hgrow hat hltt hown hinf hz0 hz1 hz2 k0
        go_wp2_with fail
        refine h19.mono ?_
        rintro e w5 ⟨rfl, lx', lh', hA⟩
        have HI5 : Hid (NI w (.slice (some ⟨gg, 0, none⟩) (i + 1) cap2) lx' lh' (ss ++ [au.nx.length]) (M2.addA au b) w5) := HI4.out.add hA
        clear h19 hA y0 y1 HI4
        go_wp2
        go_roundg (n - (i + 1))
        case measure => omega
        case rel =>
          have hal := addA_len au b
          exact ⟨i + 1, lx', lh', _, _, by omega, rfl, by go_num, HNEXT.out, HI5.out, by rw [hal.1, hal.2, HLN.out, HB.out.2.1], by rw [hal.1]; have := HB.out.1; have := HLX.out.2; omega, by simp [HSS.out]⟩
    · obtain rfl : i = n := by omega
      have e1 : (prs.map Prod.fst).drop i = [] := List.drop_of_length_le (by rw [List.length_map]; have := HN.out; omega)
      rw [e1, M3.leasts] at hle
      have hlr := Option.some.inj hle
      obtain ⟨L, hL⟩ : ∃ L, L = au.nx.length := ⟨_, rfl⟩
      obtain ⟨xa, xc, hlx, -, -⟩ := hI.nx.open hL.symm
      obtain ⟨ha, hc', hlh, -, -⟩ := hI.hit.open (n := L) (by omega)
      have k0 := hI.aut.cell 0 rfl
      have k1 := hI.aut.cell 1 rfl
      rw [hlx] at k0
      rw [hlh] at k1
      have hrest : (60 < au.nx.length ∧ res = none) ∨ (¬ 60 < au.nx.length ∧ 0 < au.nx.length ∧ (∀ s ∈ ss, s < 60) ∧ ((M2.kindsM au = some none ∧ res = none) ∨ ∃ k d, M2.kindsM au = some (some k) ∧ M2.deedsGo (prs.map Prod.fst) ss k k.ahead.length 0 = some d ∧ M3.vOkB ⟨k, d⟩ = true ∧ res = some ⟨k, d⟩)) := by
        rcases HREST.out with ⟨h, -⟩ | ⟨a, s2, h, hr⟩
        · rw [← hlr] at h; cases h
        · rw [← hlr] at h
          obtain ⟨rfl, rfl⟩ : a = au ∧ s2 = ss := by cases h; exact ⟨rfl, rfl⟩
          exact hr
      clear HREST hle hlr e1
      rcases hrest with ⟨hbig, rfl⟩ | ⟨hsm, h0, hs6, hrest⟩
      · have hLi : (60 : Int) < (L : Int) := by omega
        have z0 := HI.out.res.cell 0 rfl
        have z1 := HI.out.res.cell 1 rfl
        have z2 := HI.out.res.cell 2 rfl
        have z3 := HI.out.res.cell 3 rfl
        have f0 := HI.out.res.free 0
        have f1 := HI.out.res.free 1
        have f2 := HI.out.res.free 2
        have f3 := HI.out.res.free 3
        clear hI hlx hlh hL hlen h60 hssl
        go_wp2
        refine bodyPost_ret (v := .tuple #[.agg #[nilS, nilS, nilS, nilS], .bool false]) (by simp [results, Tryz.results34, go_sem, z0, z1, z2, z3]) rfl ⟨?_, rfl⟩
        exact (((HI.out.md.setCell (a := ⟨w.heap.size, 0, none⟩) (fun e => absurd e (by simp)) _).setCell (a := ⟨w.heap.size, 1, none⟩) (fun e => absurd e (by simp)) _).setCell (a := ⟨w.heap.size, 2, none⟩) (fun e => absurd e (by simp)) _).setCell (a := ⟨w.heap.size, 3, none⟩) (fun e => absurd e (by simp)) _
      · have hLi : ¬ (60 : Int) < (L : Int) := by omega
        have H20 : Hid (∀ r, M2.kindsM au = some r → Calls Tryz.prog 58 #[.agg #[.slice xa L xc, .slice ha L hc']] wr fun e w' => KPost r wr e w') := fun r hk => by
          have := kindsOf_any wr lx lh au hI.nx hI.hit h0 (by omega) hlen hk
          rwa [hlx, hlh] at this
        have HS6 : Hid (∀ s ∈ ss, s < 60) := hs6
        have HSL : Hid (ss.length = i) := hssl
        clear hI hlx hlh hL hlen h60 hssl hs6 h0 hsm
        rcases hrest with ⟨hk, rfl⟩ | ⟨k, d, hk, hd, hv, rfl⟩
        · go_wp2_with fail
          refine (H20.out _ hk).mono ?_
          rintro e w2 ⟨m2, he⟩
          have he : e = .returned (.tuple #[.agg #[nilS, nilS, nilS], .bool false]) := he
          subst he
          have HI2 : Hid (NI w u5 lx lh ss au w2) := HI.out.no m2
          have z0 := HI2.out.res.cellA 0 rfl
          have z1 := HI2.out.res.cellA 1 rfl
          have z2 := HI2.out.res.cellA 2 rfl
          have z3 := HI2.out.res.cellA 3 rfl
          have f0 := HI2.out.res.freeA 0
          have f1 := HI2.out.res.freeA 1
          have f2 := HI2.out.res.freeA 2
          have f3 := HI2.out.res.freeA 3
          clear m2 H20 HI k0 k1
          go_wp2
          refine bodyPost_ret (v := .tuple #[.agg #[nilS, nilS, nilS, nilS], .bool false]) (by simp [results, Tryz.results34, go_sem, z0, z1, z2, z3]) rfl ⟨?_, rfl⟩
          exact ((((HI2.out.md.alloc _).setCell (a := ⟨w.heap.size, 0, none⟩) (fun e => absurd e (by simp)) _).setCell (a := ⟨w.heap.size, 1, none⟩) (fun e => absurd e (by simp)) _).setCell (a := ⟨w.heap.size, 2, none⟩) (fun e => absurd e (by simp)) _).setCell (a := ⟨w.heap.size, 3, none⟩) (fun e => absurd e (by simp)) _
        · go_wp2_with fail
          refine (H20.out _ hk).mono ?_
          rintro e w2 ⟨m2, ka, kw, kh, rfl, hKP⟩
          obtain ⟨hvok, hv24, hvh⟩ := vOk_of hv
          simp only at hv24 hvh
          obtain ⟨N2, hN2⟩ : ∃ N2, N2 = k.ahead.length := ⟨_, rfl⟩
          obtain ⟨b1, d1, hka, -, -⟩ := hKP.ah.open hN2.symm
          obtain ⟨b2, d2, hkw, -, -⟩ := hKP.wo.open rfl
          obtain ⟨b3, d3, hkh, -, -⟩ := hKP.hi.open (n := N2) (by omega)
          generalize k.words.length = NW at hkw
          have hI2 := HI.out.no m2
          have HDG : Hid (∀ j, j < N2 → ∃ x, d[j]? = some x ∧ M2.chooseGo k j (prs.map Prod.fst) ss (0, []) = some x) := fun j hj => by
            have := deeds_get _ _ _ _ _ _ j hd (by omega)
            simpa using this
          have HDL : Hid (d.length = N2) := by show d.length = N2; rw [deeds_len _ _ _ _ _ _ hd]; exact hN2.symm
          have H21 : Hid (∀ wx j x, Mod No w wx → Row InE wx u5 ss → Row HiE wx (.slice b3 N2 d3) k.hits → j < N2 → M2.chooseGo k j (prs.map Prod.fst) ss (0, []) = some x → Calls Tryz.prog 59 #[.slice (some ⟨gr, 0, none⟩) i rcap, u5, .agg #[.slice b1 N2 d1, .slice b2 NW d2, .slice b3 N2 d3], .int .i64 (j : Int)] wx fun e w' => e = .returned (.agg (dc x).toArray) ∧ Mod No wx w') := fun wx j x hm hst hhi hj hx => by
            have hR := HRU.out.no hm
            rw [← hkh] at hhi
            have := choose_any wx b1 b2 N2 d1 NW d2 kh k j vr prs u5 ss hR.row hst (fun r hr => by obtain ⟨a, c, h, -⟩ := (hR.all r hr).row.any; exact ⟨_, _, _, h⟩) (fun r hr => by have := (hR.all r hr).fr; omega) (by rw [HSL.out]; exact HN.out.symm) HS6.out hhi hKP.ok.six (by omega) (by omega) (by have := HN.out; omega) hx
            rwa [hkh, HVR.out] at this
          have HK : Hid (KP k wr ka kw kh w2) := hKP
          have HKV : Hid (ka = .slice b1 N2 d1 ∧ kw = .slice b2 NW d2 ∧ kh = .slice b3 N2 d3) := ⟨hka, hkw, hkh⟩
          have HVV : Hid (VOk ⟨k, d⟩ ∧ k.ahead.length ≤ 24 ∧ k.hits.length = k.ahead.length) := ⟨hvok, hv24, hvh⟩
          have HI2 : Hid (NI w u5 lx lh ss au w2) := hI2
          have hN24 : N2 ≤ 24 := by omega
          have HN2 : Hid (N2 = k.ahead.length) := hN2
          obtain ⟨a5, c5, h5, -, -⟩ := HI.out.st.open HSL.out
          have HM2 : Hid (Mod No w w2 ∧ w.heap.size ≤ wr.heap.size) := ⟨hI2.md, HI.out.md.size⟩
          subst hka hkw hkh
          clear m2 H20 HI k0 k1 hKP hI2 hd hv hvok hv24 hvh hk hN2
          go_wp2_with fail
          have HD0 : Hid (DI w (w2.heap.size + 1) (.slice b1 N2 d1) (.slice b2 NW d2) (.slice b3 N2 d3) nilS k [] u5 ss ((w2.alloc (Obj.cells #[.slice b1 N2 d1, .slice b2 NW d2, .slice b3 N2 d3] 87)).alloc (Obj.cells #[.slice b1 N2 d1, .slice b2 NW d2, .slice b3 N2 d3, nilS] 90)) ∧ Blk ((w2.alloc (Obj.cells #[.slice b1 N2 d1, .slice b2 NW d2, .slice b3 N2 d3] 87)).alloc (Obj.cells #[.slice b1 N2 d1, .slice b2 NW d2, .slice b3 N2 d3, nilS] 90)) w2.heap.size [.slice b1 N2 d1, .slice b2 NW d2, .slice b3 N2 d3] 87) := by
            have m3 : Mod No w2 ((w2.alloc (Obj.cells #[.slice b1 N2 d1, .slice b2 NW d2, .slice b3 N2 d3] 87)).alloc (Obj.cells #[.slice b1 N2 d1, .slice b2 NW d2, .slice b3 N2 d3, nilS] 90)) := ((Mod.refl _ _).alloc _).alloc _
            exact ⟨⟨HI2.out.res.mod m3 (fun x => x), new2_1 w2 _ _, HK.out.ah.no m3, HK.out.wo.no m3, HK.out.hi.no m3, Row.nil _ _, HI2.out.st.no m3, HI2.out.md.no m3, (fun g hg => by cases hg), by have := HI2.out.res.lt; omega⟩, new2_0 w2 _ _⟩
          generalize (w2.alloc (Obj.cells #[.slice b1 N2 d1, .slice b2 NW d2, .slice b3 N2 d3] 87)).alloc (Obj.cells #[.slice b1 N2 d1, .slice b2 NW d2, .slice b3 N2 d3, nilS] 90) = W3 at HD0 ⊢
          generalize w2.heap.size + 1 = V at HD0 ⊢
          generalize w2.heap.size = Y at HD0 ⊢
          have HU5 : Hid (u5 = .slice a5 i c5) := h5
          subst h5
          clear HI2
          go_loopg [57] N2 (fun gh v57 wr => ∃ (j : Nat) (kd : Value), j ≤ N2 ∧ gh = N2 - j ∧ v57 = .int .i64 (j : Int) ∧ DI w V (.slice b1 N2 d1) (.slice b2 NW d2) (.slice b3 N2 d3) kd k (d.take j) (.slice a5 i c5) ss wr ∧ Blk wr Y [.slice b1 N2 d1, .slice b2 NW d2, .slice b3 N2 d3] 87)
          case atStart => exact ⟨0, nilS, by omega, by omega, rfl, HD0.out.1, HD0.out.2⟩
          case round =>
            obtain ⟨j, kd, hjn, hgj, rfl, hD, hY⟩ := hrel
            have HD : Hid (DI w V (.slice b1 N2 d1) (.slice b2 NW d2) (.slice b3 N2 d3) kd k (d.take j) (.slice a5 i c5) ss wr) := hD
            have HY : Hid (Blk wr Y [.slice b1 N2 d1, .slice b2 NW d2, .slice b3 N2 d3] 87) := hY
            clear HD0
            have hdl : (d.take j).length = j := by rw [List.length_take]; have := HDL.out; omega
            obtain ⟨a6, c6, h6, -, -⟩ := hD.de.open hdl
            by_cases hlj : j < N2
            · obtain ⟨x, hdx, hch⟩ := HDG.out j hlj
              have y0 := hY.cell 0 rfl
              have y1 := hY.cell 1 rfl
              have y2 := hY.cell 2 rfl
              have h21 := H21.out wr j x hD.md hD.st hD.hi hlj hch
              have hji : (j : Int) < (N2 : Int) := by omega
              have HTK : Hid (d.take j ++ [x] = d.take (j + 1)) := by show d.take j ++ [x] = d.take (j + 1); rw [List.take_add_one, hdx]; rfl
              have HDLj : Hid ((d.take j).length = j) := hdl
              have HKD : Hid (kd = .slice a6 j c6) := h6
              clear hD hY hdl hch hdx h6
              go_wp2_with fail
              refine h21.mono ?_
              rintro e w4 ⟨rfl, m4⟩
              unfold dc
              have HD4 : Hid (DI w V (.slice b1 N2 d1) (.slice b2 NW d2) (.slice b3 N2 d3) kd k (d.take j) (.slice a5 i c5) ss w4) := HD.out.no m4
              have HY4 : Hid (Blk w4 Y [.slice b1 N2 d1, .slice b2 NW d2, .slice b3 N2 d3] 87) := HY.out.mod m4 (fun x => x)
              clear h21 HD HY m4 y0 y1 y2
              have k3 := HD4.out.vie.cellA 3 rfl
              rw [HKD.out] at k3
              have hVlt := HD4.out.vie.lt
              have hown : w4.ownsRow 0 149 2 (.slice a6 j c6) j ((d.take j).flatMap DeE.f) := by
                have h2 : w4.ownsRow 0 149 2 kd (d.take j).length ((d.take j).flatMap DeE.f) := HD4.out.de
                rwa [HDLj.out, HKD.out] at h2
              obtain ⟨i0, hinf, hz0, hz1, hz2⟩ := info_parts Tryz.info149
              obtain ⟨X2, hX2⟩ : ∃ X2, X2 = (⟨x.2.toArray⟩ : ByteArray) := ⟨_, rfl⟩
              have HX : Hid (DeE.f x = [.int .i64 (x.1 : Int), .string X2]) := by show DeE.f x = _; rw [hX2]; rfl
              rw [← hX2]
              clear hX2
              generalize x.1 = X1 at HX ⊢
              have hVne : ¬ V = w4.heap.size := by omega
              go_wp2_with (at_builtin; refine wpList_append_lies _ rfl _ _ 88 rfl 0 149 i0 _ 2 24 Tryz.underlying88 hinf hz0 hz1 hz2 rfl (by omega) (.slice a6 j c6) j ((d.take j).flatMap DeE.f) rfl ((hown.alloc _).alloc _) ⟨w4.heap.size + 1, 0, none⟩ 1 1 [.int .i64 (X1 : Int), .string X2] rfl rfl (World.news_of_block (cs := #[.int .i64 (X1 : Int), .string X2]) (t := 149) (fr := (0, 0)) (new2_1 w4 _ _)) (by intro u hu; simp at hu; rcases hu with rfl | rfl <;> rfl) (by omega) (by unfold maxLen; omega) (by omega) (by simp) (w4.heap.size + 2) (by simp) ?_)
              intro gg cap2 w5 hown5 hgrow hat hltt
              have hr5 : Row DeE w5 (.slice (some ⟨gg, 0, none⟩) (j + 1) cap2) (d.take (j + 1)) := by rw [← HTK.out]; exact app_row HDLj.out HX.out.symm hown5
              have hm5 : Mod No w4 ((w4.alloc (Obj.cells #[.int .i64 (X1 : Int), .string X2] 149)).alloc (Obj.cells #[.int .i64 (X1 : Int), .string X2] 149)) := ((Mod.refl _ _).alloc _).alloc _
              have hD5 := HD4.out.no hm5
              have hf5 : Fresh ((w4.alloc (Obj.cells #[.int .i64 (X1 : Int), .string X2] 149)).alloc (Obj.cells #[.int .i64 (X1 : Int), .string X2] 149)) kd (.slice (some ⟨gg, 0, none⟩) (j + 1) cap2) := app_fresh (H := w4.heap.size + 2) (by rw [HKD.out]; exact hat) (by simp)
              have hV5 := hD5.vie.grown hgrow (fun e => hD5.vie.apart hD5.de (by decide) (by rw [HKD.out]; exact e.symm))
              have HD6 : Hid (DI w V (.slice b1 N2 d1) (.slice b2 NW d2) (.slice b3 N2 d3) (.slice (some ⟨gg, 0, none⟩) (j + 1) cap2) k (d.take (j + 1)) (.slice a5 i c5) ss (w5.setCell ⟨V, 3, none⟩ (.slice (some ⟨gg, 0, none⟩) (j + 1) cap2))) := hD5.more (by rw [HKD.out]; exact hgrow) hr5 hf5
              have hY5 : Blk w5 Y [.slice b1 N2 d1, .slice b2 NW d2, .slice b3 N2 d3] 87 := ((HY4.out).mod hm5 (fun x => x)).grown hgrow (fun e => ((HY4.out).mod hm5 (fun x => x)).apart hD5.de (by decide) (by rw [HKD.out]; exact e.symm))
              have hYV : Y ≠ V := hY5.diff hV5 (by decide)
              have HY6 : Hid (Blk (w5.setCell ⟨V, 3, none⟩ (.slice (some ⟨gg, 0, none⟩) (j + 1) cap2)) Y [.slice b1 N2 d1, .slice b2 NW d2, .slice b3 N2 d3] 87) := hY5.other (a := ⟨V, 3, none⟩) hYV _
              have v3 := hV5.cell 3 rfl
              rw [HKD.out] at v3
              have g3 := hV5.free 3
              clear hr5 hm5 hD5 hf5 hV5 hY5 hown5 hgrow hat hltt hown hinf hz0 hz1 hz2 k3
              go_wp2
              go_roundg (N2 - (j + 1))
              case measure => omega
              case rel => exact ⟨j + 1, _, by omega, rfl, by go_num, HD6.out, HY6.out⟩
            · obtain rfl : j = N2 := by omega
              have HTD : Hid (d.take j = d) := List.take_of_length_le (by have := HDL.out; omega)
              have v0 := hD.vie.cell 0 rfl
              have v1 := hD.vie.cell 1 rfl
              have v2 := hD.vie.cell 2 rfl
              have v3 := hD.vie.cell 3 rfl
              rw [h6] at v3
              have z0 := hD.res.cell 0 rfl
              have z1 := hD.res.cell 1 rfl
              have z2 := hD.res.cell 2 rfl
              have z3 := hD.res.cell 3 rfl
              have f0 := hD.res.free 0
              have f1 := hD.res.free 1
              have f2 := hD.res.free 2
              have f3 := hD.res.free 3
              have HKD : Hid (kd = .slice a6 j c6) := h6
              clear hD hY hdl h6
              go_wp2
              refine bodyPost_ret (v := .tuple #[.agg #[.slice b1 j d1, .slice b2 NW d2, .slice b3 j d3, .slice a6 j c6], .bool true]) (by simp [results, Tryz.results34, go_sem, z0, z1, z2, z3]) rfl ?_
              have hm9 : Mod (fun q => q = w.heap.size) wr ((((wr.setCell ⟨w.heap.size, 0, none⟩ (.slice b1 j d1)).setCell ⟨w.heap.size, 1, none⟩ (.slice b2 NW d2)).setCell ⟨w.heap.size, 2, none⟩ (.slice b3 j d3)).setCell ⟨w.heap.size, 3, none⟩ (.slice a6 j c6)) := ((((Mod.refl (fun q => q = w.heap.size) wr).setCell (a := ⟨w.heap.size, 0, none⟩) (fun _ => rfl) _).setCell (a := ⟨w.heap.size, 1, none⟩) (fun _ => rfl) _).setCell (a := ⟨w.heap.size, 2, none⟩) (fun _ => rfl) _).setCell (a := ⟨w.heap.size, 3, none⟩) (fun _ => rfl) _
              have hw := HM2.out.2
              refine ⟨HD.out.md.trans' hm9 (fun q hq e => by omega), _, _, _, kd, by rw [HKD.out], ⟨HVV.out.1, ⟨HK.out.ok.six, HK.out.ok.len, HK.out.ok.pos, HK.out.ok.wl⟩, HVV.out.2.1, HVV.out.2.2, HD.out.ah.mod hm9 (fun g hg e => HD.out.res.apart HD.out.ah (by decide) (by rw [hg, e])), HD.out.wo.mod hm9 (fun g hg e => HD.out.res.apart HD.out.wo (by decide) (by rw [hg, e])), HD.out.hi.mod hm9 (fun g hg e => HD.out.res.apart HD.out.hi (by decide) (by rw [hg, e])), ?_, fun g hg => by have := HK.out.fa g hg; omega, fun g hg => by have := HK.out.fw g hg; omega, fun g hg => by have := HK.out.fh g hg; omega, HD.out.fd⟩⟩
              have hde := HD.out.de
              rw [HTD.out] at hde
              exact hde.mod hm9 (fun g hg e => HD.out.res.apart HD.out.de (by decide) (by rw [hg, e]))
end Go.Proofs.YtmbapmbpnnaanabGreatDoor
