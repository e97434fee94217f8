import Derived.Test.YtmbapmbpnnaanabGreatDoorMC
namespace Go.Proofs.YtmbapmbpnnaanabGreatDoor
open Go.RowKit
attribute [local go_sem ↓] Go.wp_at_zero Go.wp_at_succ Tryz.load204 Tryz.store204 Tryz.alloc204 Tryz.build85
attribute [local go_sem] pb_eq po_eq ag_eq cellsAt_drew allAt_drew isRow_new cells_new all_new cellsAt_alloc allAt_alloc setRow_new hc_len hc_size hc_ok isRow_hc

theorem qc_got (Nv : Nat → Nat) (l : Nat) (hl : l < 4) : (qc Nv (l + 1))[l]? = some (.int .i64 (Nv l : Int)) := by
  match l, hl with
  | 0, _ => rfl
  | 1, _ => rfl
  | 2, _ => rfl
  | 3, _ => rfl
abbrev nilS : Value := .slice none 0 0
/-- What KindsOf gives. -/
structure KP (k : M2.Kinds) (w : World) (ka kw kh : Value) (w' : World) : Prop where
  ok : KOk k
  ah : Row R4E w' ka k.ahead
  wo : Row StE w' kw k.words
  hi : Row HiE w' kh k.hits
  fa : ∀ g, ka.ownBlock = some g → w.heap.size ≤ g
  fw : ∀ g, kw.ownBlock = some g → w.heap.size ≤ g
  fh : ∀ g, kh.ownBlock = some g → w.heap.size ≤ g
def KPost (r : Option M2.Kinds) (w : World) (e : Ending) (w' : World) : Prop := Mod No w w' ∧ match r with
  | none => e = .returned (.tuple #[.agg #[nilS, nilS, nilS], .bool false])
  | some k => ∃ ka kw kh, e = .returned (.tuple #[.agg #[ka, kw, kh], .bool true]) ∧ KP k w ka kw kh w'

set_option maxHeartbeats 4000000 in
set_option maxRecDepth 100000 in
theorem kindsOf_any (w : World) (vx vh : Value) (a : M2.Auto) (hx : Row R4E w vx a.nx) (hh : Row BoE w vh a.hit) (hl0 : 0 < a.nx.length) (hl1 : a.nx.length ≤ 60) (hl2 : a.nx.length = a.hit.length) {r : Option M2.Kinds} (hM : M2.kindsM a = some r) :
    Calls Tryz.prog 58 #[.agg #[vx, vh]] w fun e w' => KPost r w e w' := by
  obtain ⟨xa, xcap, hvx, -, -, -⟩ := hx.any
  obtain ⟨ya, ycap, hvh, -, -, -⟩ := hh.any
  obtain ⟨N, hN⟩ : ∃ N, N = a.nx.length := ⟨_, rfl⟩
  rw [← hl2, ← hN] at hvh
  rw [← hN] at hvx
  have HOX : Hid (∀ g, vx.ownBlock = some g → g < w.heap.size) := fun g hg => hx.lt hg
  have H44 : Hid (∀ wx, Mod No w wx → Calls Tryz.prog 90 #[.agg #[vx, vh]] wx fun e w' => e = .returned (.agg (hc a.hit).toArray) ∧ Mod No wx w') := fun wx hm => by
    have := ofEmpty_any wx xa N xcap vh a.hit (hh.no hm) (by omega) (by omega)
    rwa [← hvx] at this
  have H45 : Hid (∀ wx h h' l, Mod No w wx → l < 4 → h.length = 60 → M2.aheadGo h l a.nx 60 = some h' → Calls Tryz.prog 91 #[.agg #[vx, vh], .agg (hc h).toArray, .int .i64 (l : Int)] wx fun e w' => e = .returned (.agg (hc h').toArray) ∧ Mod No wx w') := fun wx h h' l hm hl h6 hA => by
    have := ahead_any wx vx ya N ycap a.nx h h' l (hx.no hm) hl h6 hl0 (by omega) hA
    rwa [← hvh] at this
  have HX : Hid (Row R4E w vx a.nx) := hx
  have HM : Hid (M2.kindsGo a 30 0 ⟨[], [[]], [M2.pad60 a.hit]⟩ = some r) := hM
  have HVX : Hid (vx = .slice xa N xcap ∧ vh = .slice ya N ycap) := ⟨hvx, hvh⟩
  clear hx hh hM hl2 hN
  rw [hvx, hvh]
  rw [hvx, hvh] at H44
  go_enter Tryz.func58, Tryz.ntmps58
  go_wp2_with fail
  refine (H44.out _ ((((Mod.refl _ _).alloc _).alloc _).alloc _)).mono ?_
  rintro e w1 ⟨rfl, m1⟩
  clear H44
  have hb1 : Blk w1 w.heap.size [vx, vh] 142 := by
    rw [hvx, hvh]
    exact Blk.mod (new3_0 w _ _ _) m1 (fun x => x)
  have hb2 : Blk w1 (w.heap.size + 1) [nilS, nilS, nilS] 87 := Blk.mod (new3_1 w _ _ _) m1 (fun x => x)
  have hb3 : Blk w1 (w.heap.size + 1 + 1) [.string ⟨#[]⟩] 9 := Blk.mod (new3_2 w _ _ _) m1 (fun x => x)
  have hm1 : Mod No w w1 := ((((Mod.refl _ _).alloc _).alloc _).alloc _).no m1
  clear m1
  go_wp2_with fail
  have HI0 : Hid (KI w vx vh a (w1.heap.size + 1) nilS (.slice (some ⟨w.heap.size + 1 + 1, 0, none⟩) 1 1) (.slice (some ⟨w1.heap.size, 0, none⟩) 1 1) ⟨[], [[]], [M2.pad60 a.hit]⟩ ((w1.alloc (Obj.cells (hc a.hit).toArray 204)).alloc (Obj.cells #[nilS, .slice (some ⟨w.heap.size + 1 + 1, 0, none⟩) 1 1, .slice (some ⟨w1.heap.size, 0, none⟩) 1 1] 87))) := by
    have m2 : Mod No w1 ((w1.alloc (Obj.cells (hc a.hit).toArray 204)).alloc (Obj.cells #[nilS, .slice (some ⟨w.heap.size + 1 + 1, 0, none⟩) 1 1, .slice (some ⟨w1.heap.size, 0, none⟩) 1 1] 87)) := ((Mod.refl _ _).alloc _).alloc _
    have h3 := hb3.lt
    refine ⟨hb1.mod m2 (fun x => x), hb2.mod m2 (fun x => x), new2_1 w1 _ _, (HX.out.no hm1).no m2, Row.nil _ _, ?_, ?_, hm1.no m2, ?_, ?_, ?_, HOX.out, by omega⟩
    · exact Row.of_block (E := StE) (xs := [[]]) (hb3.mod m2 (fun x => x)) (by simp; unfold maxLen; omega)
    · refine Row.of_block (E := HiE) (xs := [M2.pad60 a.hit]) ?_ (by simp; unfold maxLen; omega)
      have : [M2.pad60 a.hit].flatMap HiE.f = hc a.hit := by
        show hc (M2.pad60 a.hit) ++ [] = hc a.hit
        rw [List.append_nil]
        unfold hc
        rw [pad_id (pad_len a.hit)]
      rw [this]
      exact new2_0 w1 _ _
    · intro g hg; cases hg
    · intro g hg; cases hg; show w.heap.size ≤ w.heap.size + 1 + 1; omega
    · intro g hg; cases hg; show w.heap.size ≤ w1.heap.size; exact hm1.size
  have HOK0 : Hid (KOk ⟨[], [[]], [M2.pad60 a.hit]⟩) := ⟨fun h hh => by simp at hh; rw [hh]; exact pad_len _, rfl, by simp, fun x hx => by simp at hx; rw [hx]; simp⟩
  generalize (w1.alloc (Obj.cells (hc a.hit).toArray 204)).alloc (Obj.cells #[nilS, .slice (some ⟨w.heap.size + 1 + 1, 0, none⟩) 1 1, .slice (some ⟨w1.heap.size, 0, none⟩) 1 1] 87) = W0 at HI0 ⊢
  generalize w1.heap.size + 1 = C at HI0 ⊢
  generalize (Value.slice (some ⟨w1.heap.size, 0, none⟩) 1 1) = kh0 at HI0
  generalize (Value.slice (some ⟨w.heap.size + 1 + 1, 0, none⟩) 1 1) = kw0 at HI0
  clear hb1 hb2 hb3 hm1
  go_loopg [5] 30 (fun g v5 wr => ∃ (i : Nat) (ka kw kh : Value) (k : M2.Kinds), v5 = .int .i64 (i : Int) ∧ KI w vx vh a C ka kw kh k wr ∧ KOk k ∧ k.hits.length ≤ 24 ∧ M2.kindsGo a g i k = some r ∧ k.ahead.length = i ∧ i ≤ 30)
  case atStart => exact ⟨0, nilS, kw0, kh0, _, rfl, HI0.out, HOK0.out, by simp, HM.out, rfl, by omega⟩
  case round =>
    obtain ⟨i, ka, kw, kh, k, rfl, hI, hok, h24, hgo, hah, hi30⟩ := hrel
    match gk, hgo with
    | 0, hgo => rw [M2.kindsGo] at hgo; cases hgo
    | g + 1, hgo =>
      obtain ⟨n, hn⟩ : ∃ n, n = k.hits.length := ⟨_, rfl⟩
      obtain ⟨ha3, hcap3, hkh, -, -⟩ := hI.hi.open hn.symm
      obtain ⟨ha2, hcap2, hkw, -, -⟩ := hI.wo.open (n := n) (by rw [hok.len, hn])
      obtain ⟨ha1, hcap1, hka, -, -⟩ := hI.ah.open hah
      have HI : Hid (KI w vx vh a C ka kw kh k wr) := hI
      have HOK : Hid (KOk k) := hok
      have c2 := hI.kin.cell 2 rfl
      have c0 := hI.kin.cell 0 rfl
      have c1 := hI.kin.cell 1 rfl
      rw [hkh] at c2
      rw [hkw] at c1
      rw [hka] at c0
      have HKV : Hid (ka = .slice ha1 i hcap1 ∧ kw = .slice ha2 n hcap2 ∧ kh = .slice ha3 n hcap3) := ⟨hka, hkw, hkh⟩
      have HN : Hid (n = k.hits.length) := hn
      by_cases hlt : n ≤ i
      · rw [M2.kindsGo, if_pos (by omega)] at hgo
        have hgo : some (some k) = some r := hgo
        cases hgo
        have hli : ¬ (i : Int) < (n : Int) := by omega
        have r0 := hI.res.cell 0 rfl
        have r1 := hI.res.cell 1 rfl
        have r2 := hI.res.cell 2 rfl
        have f0 := hI.res.free 0
        have f1 := hI.res.free 1
        have f2 := hI.res.free 2
        clear hI hka hkw hkh hn
        go_wp2
        refine bodyPost_ret (v := .tuple #[.agg #[.slice ha1 i hcap1, .slice ha2 n hcap2, .slice ha3 n hcap3], .bool true]) (by simp [results, Tryz.results58, go_sem, r0, r1, r2]) rfl ?_
        have hres : KI w vx vh a C ka kw kh k wr := HI.out
        have hC := hres.oC
        have hm3 : Mod (fun q => q = w.heap.size + 1) wr (((wr.setCell ⟨w.heap.size + 1, 0, none⟩ (.slice ha1 i hcap1)).setCell ⟨w.heap.size + 1, 1, none⟩ (.slice ha2 n hcap2)).setCell ⟨w.heap.size + 1, 2, none⟩ (.slice ha3 n hcap3)) := (((Mod.refl (fun q => q = w.heap.size + 1) wr).setCell (a := ⟨w.heap.size + 1, 0, none⟩) (fun _ => rfl) _).setCell (a := ⟨w.heap.size + 1, 1, none⟩) (fun _ => rfl) _).setCell (a := ⟨w.heap.size + 1, 2, none⟩) (fun _ => rfl) _
        refine ⟨hres.md.trans' hm3 (fun q hq e => by omega), ka, kw, kh, ?_, HOK.out, hres.ah.mod hm3 (fun g hg e => hres.res.apart hres.ah (by decide) (by rw [hg, e])), hres.wo.mod hm3 (fun g hg e => hres.res.apart hres.wo (by decide) (by rw [hg, e])), hres.hi.mod hm3 (fun g hg e => hres.res.apart hres.hi (by decide) (by rw [hg, e])), hres.fa, hres.fw, hres.fh⟩
        rw [HKV.out.1, HKV.out.2.1, HKV.out.2.2]
      · obtain ⟨Ks, Nv, hK0, hst, hend⟩ := kinds4 (by omega) hgo
        have hsp : ∀ l, l ≤ 4 → KOk (Ks l) ∧ (Ks l).hits.length ≤ n + l ∧ n ≤ (Ks l).hits.length ∧ (Ks l).ahead = k.ahead := by
          intro l
          induction l with
          | zero => intro _; rw [hK0]; exact ⟨hok, by omega, by omega, rfl⟩
          | succ l ih =>
            intro hl
            obtain ⟨i1, i2, i3, i4⟩ := ih (by omega)
            obtain ⟨h1, h2, hs⟩ := kindL_spec (hst l (by omega))
            have := hs.ok i1
            exact ⟨this.1, by omega, by omega, by rw [hs.ad, i4]⟩
        have HSP : Hid (∀ l, l ≤ 4 → KOk (Ks l) ∧ (Ks l).hits.length ≤ n + l ∧ n ≤ (Ks l).hits.length ∧ (Ks l).ahead = k.ahead) := hsp
        have HST : Hid (∀ l, l < 4 → M2.kindL a i l (Ks l) = some (Nv l, Ks (l + 1))) := hst
        have HEND : Hid ((24 < (Ks 4).hits.length ∧ r = none) ∨ (¬ 24 < (Ks 4).hits.length ∧ M2.kindsGo a g (i + 1) { Ks 4 with ahead := (Ks 4).ahead ++ [⟨Nv 0, Nv 1, Nv 2, Nv 3⟩] } = some r)) := hend
        have HAH : Hid (k.ahead.length = i) := hah
        have hli : (i : Int) < (n : Int) := by omega
        have hQ0 : w.heap.size ≤ wr.heap.size := hI.md.size
        have HI1 : Hid (KI w vx vh a C ka kw kh (Ks 0) (wr.alloc (Obj.cells #[.int .i64 0, .int .i64 0, .int .i64 0, .int .i64 0] 106)) ∧ Blk (wr.alloc (Obj.cells #[.int .i64 0, .int .i64 0, .int .i64 0, .int .i64 0] 106)) wr.heap.size (qc Nv 0) 106) := ⟨by rw [hK0]; exact hI.no ((Mod.refl _ _).alloc _), heap_alloc_new wr _⟩
        have hka0 : ka.ownBlock ≠ some wr.heap.size := fun e => by have := hI.ah.lt e; omega
        have hn24 : n ≤ 24 := by omega
        have HKA : Hid (ka = .slice ha1 i hcap1) := HKV.out.1
        clear hI HI hok HOK hgo hst hend hsp hK0 hah hka hkw hkh hn HM HI0 HOK0 h24
        go_wp2_with fail
        clear c0 c1 c2
        generalize wr.alloc (Obj.cells #[.int .i64 0, .int .i64 0, .int .i64 0, .int .i64 0] 106) = W2 at HI1 ⊢
        generalize wr.heap.size = Q at HI1 hQ0 hka0 ⊢
        go_loopg [21] 4 (fun h v21 wx => ∃ (l : Nat) (kw kh : Value), v21 = .int .i64 (l : Int) ∧ l ≤ 4 ∧ h = 4 - l ∧ KI w vx vh a C ka kw kh (Ks l) wx ∧ Blk wx Q (qc Nv l) 106)
        case atStart => exact ⟨0, kw, kh, rfl, by omega, rfl, HI1.out.1, HI1.out.2⟩
        case round =>
          clear HI1 HKV
          obtain ⟨l, kw, kh, rfl, hl4, hh4, hI, hQ⟩ := hrel
          have HI : Hid (KI w vx vh a C ka kw kh (Ks l) wr) := hI
          have HQ : Hid (Blk wr Q (qc Nv l) 106) := hQ
          by_cases hl : l < 4
          · have hl3 : (l : Int) < 4 := by omega
            obtain ⟨h1, h2, hs⟩ := kindL_spec (HST.out l hl)
            obtain ⟨o1, o2, o3, o4⟩ := HSP.out l (by omega)
            obtain ⟨m, hm⟩ : ∃ m, m = (Ks l).hits.length := ⟨_, rfl⟩
            obtain ⟨ha3, hcap3, hkh, -, -⟩ := hI.hi.open hm.symm
            obtain ⟨g3, hg3⟩ : ∃ g3, ha3 = some ⟨g3, 0, none⟩ := by
              obtain ⟨g3, c3, h3, -⟩ := hI.hi.form (by omega)
              rw [hkh] at h3
              injection h3 with h3 _
              exact ⟨g3, h3⟩
            subst hg3
            have b0 := hI.box.cell 0 rfl
            have b1 := hI.box.cell 1 rfl
            rw [hvx] at b0
            rw [hvh] at b1
            have c2 := hI.kin.cell 2 rfl
            rw [hkh] at c2
            have K2 := hI.kin.cellA 2 rfl
            rw [hkh] at K2
            have B0 := hI.box.cellA 0 rfl
            have B1 := hI.box.cellA 1 rfl
            rw [hvx] at B0
            rw [hvh] at B1
            have hCne : ¬ C = wr.heap.size := by have := hI.kin.lt; omega
            have hwne : ¬ w.heap.size = wr.heap.size := by have := hI.box.lt; omega
            have hrow := hI.hi
            rw [hkh] at hrow
            have q1 := cellsAt_of (hrow.range hs.hi)
            rw [HiE.len] at q1
            change cellsAt wr g3 (i * 60) 60 = hc h1 ∧ allAt wr g3 (i * 60) 60 = true at q1
            obtain ⟨q1, q3⟩ := q1
            have H45l : Hid (∀ wx, Mod No wr wx → Calls Tryz.prog 91 #[.agg #[.slice xa N xcap, .slice ya N ycap], .agg (hc h1).toArray, .int .i64 (l : Int)] wx fun e w' => e = .returned (.agg (hc h2).toArray) ∧ Mod No wx w') := fun wx hm => by
              have := H45.out wx h1 h2 l (HI.out.md.no hm) hl (o1.six h1 (List.mem_of_getElem? hs.hi)) hs.ah
              rwa [hvx, hvh] at this
            have him : (i : Int) < (m : Int) := by omega
            have HS : Hid (KStep a i l (Ks l) (Nv l) (Ks (l + 1)) h1 h2) := hs
            have HO1 : Hid (KOk (Ks l)) := o1
            have HMM : Hid (m = (Ks l).hits.length ∧ kh = .slice (some ⟨g3, 0, none⟩) m hcap3) := ⟨hm, hkh⟩
            have hm28 : m ≤ 28 := by omega
            clear hI hQ hs hrow o1 o2 o3 o4 hm hkh
            go_wp2_with fail
            go_cut [8, 21] from 21 to 58 (fun s8 s21 wc => s21 = .int .i64 (l : Int) ∧ ∃ P, s8 = .pointer (some ⟨P, 0, none⟩) ∧ Blk wc P (hc h2) 204 ∧ Mod No wr wc)
            case first =>
              go_region_with (first | (go_at_call 91; refine (H45l.out _ ((Mod.refl _ _).drew.alloc _)).mono ?_; rintro e wA ⟨rfl, mA⟩; have zB : Blk wA wr.heap.size (hc []) 204 := Blk.mod (Blk.new wr.drew (hc []) 204) mA (fun x => x); have zI := isRow_of zB; rw [hc_len] at zI) | (go_at_call 91; refine (H45l.out _ (Mod.refl _ _).drew).mono ?_; rintro e wA ⟨rfl, mA⟩))
              all_goals (try go_wp2_with fail)
              all_goals go_meet
              all_goals first
                | exact ⟨rfl, _, rfl, Blk.new wA (hc h2) 204, ((Mod.refl _ _).drew.no mA).alloc _⟩
                | exact ⟨rfl, _, rfl, zB.setRow (hc h2), (((Mod.refl _ _).drew.alloc _).no mA).setRow (fun e => absurd e (by omega)) _⟩
            case rest =>
              obtain ⟨rfl, P, rfl, hP, mc⟩ := hcut
              have HIc : Hid (KI w vx vh a C ka kw kh (Ks l) wc) := HI.out.no mc
              have HQc : Hid (Blk wc Q (qc Nv l) 106) := HQ.out.mod mc (fun x => x)
              clear HI HQ H45l q1 q3 c2 K2 B0 B1 b0 b1 hCne hwne mc
              have q1 := cellsAt_of hP.range
              rw [hc_len] at q1
              obtain ⟨q1, q3⟩ := q1
              have h46 := numberK_any wc C ka kw kh (Ks l).hits h2 HIc.out.kin HIc.out.hi HO1.out.six (ahead_len _ _ _ _ _ HS.out.ah) HO1.out.pos (by have := HMM.out.1; omega)
              rw [← HS.out.fn, ← HS.out.ht] at h46
              clear hP
              go_wp2_with fail
              refine h46.mono ?_
              rintro e w6 ⟨rfl, kh2, hB6, hr6, hf6, hm6⟩
              clear h46 q1 q3
              have hI6 := HIc.out.num hB6 hr6 hf6 hm6
              have hQ6 : Blk w6 Q (qc Nv l) 106 := HQc.out.mod hm6 (by
                rintro (e | e)
                · exact HQc.out.diff HIc.out.kin (by decide) e
                · exact HQc.out.apart HIc.out.hi (by decide) e)
              obtain ⟨qv, hqv⟩ : ∃ v, (qc Nv l)[l]? = some v := ⟨(qc Nv l)[l]'(by simp [qc]; omega), List.getElem?_eq_getElem _⟩
              have q0 := hQ6.cell l hqv
              have fq := hQ6.free l
              have hm7 : Mod (fun q => q = Q) w6 (w6.setCell ⟨Q, l, none⟩ (.int .i64 (Nv l : Int))) := (Mod.refl (fun q => q = Q) w6).setCell (a := ⟨Q, l, none⟩) (fun _ => rfl) _
              have HI7 : Hid (KI w vx vh a C ka kw kh2 { Ks l with hits := (Ks (l + 1)).hits } (w6.setCell ⟨Q, l, none⟩ (.int .i64 (Nv l : Int)))) := hI6.side hQ6 hm7 hQ0 (by decide) (by decide) hka0 (hQ6.apart hI6.wo (by decide)) (hQ6.apart hI6.hi (by decide))
              have HQ7 : Hid (Blk (w6.setCell ⟨Q, l, none⟩ (.int .i64 (Nv l : Int))) Q (qc Nv (l + 1)) 106) := by
                show Blk (w6.setCell ⟨Q, l, none⟩ (.int .i64 (Nv l : Int))) Q (qc Nv (l + 1)) 106
                rw [← qc_set Nv l hl]; exact hQ6.set l _
              obtain ⟨w7, hw7⟩ : ∃ w7, w6.setCell ⟨Q, l, none⟩ (.int .i64 (Nv l : Int)) = w7 := ⟨_, rfl⟩
              rw [hw7] at HI7 HQ7
              clear hB6 hr6 hf6 hm6 hI6 hQ6 hqv hm7 HIc HQc
              go_wp2_with fail
              clear hw7 q0 fq
              obtain ⟨ha2, hcap2, hkw, -, hown2⟩ := HI7.out.wo.open (n := m) (by show (Ks l).words.length = m; rw [HO1.out.len, HMM.out.1])
              have d1 := HI7.out.kin.cell 1 rfl
              rw [hkw] at d1
              have z0 : w7.cell? ⟨Q, l, none⟩ = some (.int .i64 (Nv l : Int)) := HQ7.out.cell l (qc_got Nv l hl)
              have hmz : m = (Ks l).words.length := by rw [HO1.out.len, HMM.out.1]
              obtain ⟨w8, hw8⟩ : ∃ w8, w7 = w8 := ⟨_, rfl⟩
              rcases HS.out.wo with ⟨hnew, x, hx, hwx⟩ | ⟨hold, hwx⟩
              · have hnm : Nv l = m := by omega
                have HKE : Hid (Ks (l + 1) = { { Ks l with hits := (Ks (l + 1)).hits } with words := (Ks l).words ++ [M2.letterOf l ++ x] }) := by
                  show Ks (l + 1) = _
                  have h1 := HS.out.ad
                  revert h1 hwx
                  generalize Ks (l + 1) = kk
                  intro h1 h2
                  cases kk
                  simp at h1 h2 ⊢
                  exact ⟨h2, h1⟩
                have hnmB : ((Nv l : Int) == (m : Int)) = true := by rw [hnm]; simp
                obtain ⟨g2, hg2⟩ : ∃ g2, ha2 = some ⟨g2, 0, none⟩ := by
                  obtain ⟨g2, c2, h2, -⟩ := HI7.out.wo.form (by show 0 < (Ks l).words.length; omega)
                  rw [hkw] at h2
                  injection h2 with h2 _
                  exact ⟨g2, h2⟩
                subst hg2
                have HKW : Hid (kw = .slice (some ⟨g2, 0, none⟩) m hcap2) := hkw
                have HXI : Hid ((Ks l).words[i]? = some x) := hx
                have hXs : x.length ≤ 1000 := by have := HO1.out.wl x (List.mem_of_getElem? hx); omega
                clear hkw hw8 hmz hwx hnew hx hown2
                go_quiet (fail)
                clear hnmB d1 z0
                have HI8 : Hid (KI w vx vh a C ka kw kh2 { Ks l with hits := (Ks (l + 1)).hits } (w7.drewN nq)) := HI7.out.no ((Mod.refl _ _).drewN _)
                have HQ8 : Hid (Blk (w7.drewN nq) Q (qc Nv (l + 1)) 106) := HQ7.out.drewN _
                generalize w7.drewN nq = w8 at HI8 HQ8 ⊢
                clear HI7 HQ7
                have hrow2 := HI8.out.wo
                rw [HKW.out] at hrow2
                have hown2 : w8.ownsRow 0 9 1 (.slice (some ⟨g2, 0, none⟩) m hcap2) m ((Ks l).words.flatMap StE.f) := by
                  have h2 : w8.ownsRow 0 9 1 (.slice (some ⟨g2, 0, none⟩) m hcap2) (Ks l).words.length ((Ks l).words.flatMap StE.f) := hrow2
                  rwa [HO1.out.len, ← HMM.out.1] at h2
                have cx := StE.cell hrow2 HXI.out
                have HLC : Hid ((⟨#[97, 98, 99, 100]⟩ : ByteArray).extract l (l + 1) = ⟨(M2.letterOf l).toArray⟩) := letter_cut l hl
                have hl1 : (l : Int) + 1 ≤ 4 := by omega
                have hl2 : (0 : Int) ≤ (l : Int) + 1 := by omega
                have hl5 : (l : Int) ≤ (l : Int) + 1 := by omega
                have hl6 : ((l : Int) + 1).toNat = l + 1 := by omega
                have hwr : IntKind.i64.wrap ((l : Int) + 1) = (l : Int) + 1 := by rw [IntKind.wrap_i64]; omega
                have d1 := HI8.out.kin.cell 1 rfl
                rw [HKW.out] at d1
                have F1 := HI8.out.kin.freeA 1
                have K1 := HI8.out.kin.cellA 1 rfl
                rw [HKW.out] at K1
                have hKlt := HI8.out.kin.lt
                have hCg : some C ≠ (Value.slice (some ⟨g2, 0, none⟩) m hcap2).ownBlock := by rw [← HKW.out]; exact fun e => HI8.out.kin.apart HI8.out.wo (by decide) e.symm
                obtain ⟨i0, hinf, hz0, hz1, hz2⟩ := info_parts Tryz.info9
                obtain ⟨X, hX⟩ : ∃ X, X = (⟨x.toArray⟩ : ByteArray) := ⟨_, rfl⟩
                rw [← hX] at cx
                have HXX : Hid (X = (⟨x.toArray⟩ : ByteArray)) := hX
                have hXs : X.size ≤ 1000 := by rw [hX]; show x.toArray.size ≤ 1000; simpa using hXs
                have hcat : ¬ 9223372036854775807 < min (l + 1) 4 - l + X.size := by omega
                clear hrow2 hX
                go_wp2_with fail
                go_region_law (refine step_append_lies _ (by rfl) _ _ _ (by rfl) 0 9 i0 _ 1 16 Tryz.underlying56 hinf hz0 hz1 hz2 rfl (by omega) (.slice (some ⟨g2, 0, none⟩) m hcap2) m ((Ks l).words.flatMap StE.f) (by rfl) ((hown2.alloc _).drew) ⟨w8.heap.size, 0, none⟩ 1 1 [.string ((⟨#[97, 98, 99, 100]⟩ : ByteArray).extract l (l + 1) ++ X)] (by rfl) (by rfl) (World.news_of_block (cs := #[.string ((⟨#[97, 98, 99, 100]⟩ : ByteArray).extract l (l + 1) ++ X)]) (t := 9) (fr := (0, 0)) (heap_alloc_new w8 _)) (by intro u hu; simp at hu; rw [hu]; rfl) (by omega) (by unfold maxLen; omega) (by omega) (by simp) (w8.heap.size + 1) (by simp) ?_; intro gg cap2 w9 hown9 hgrow hat hltt; have s0 := (hgrow.cell_far ⟨C, 1, none⟩ (by simp; omega) hCg).trans (K1 _); have s1 := (hgrow.frozen_far ⟨C, 1, none⟩ (by simp; omega) hCg).trans (F1 _))
                all_goals
                  have hr9 : Row StE w9 (.slice (some ⟨gg, 0, none⟩) (m + 1) cap2) ((Ks l).words ++ [M2.letterOf l ++ x]) := app_row (by rw [HO1.out.len, HMM.out.1]) (by rw [HLC.out, HXX.out]; rfl) hown9
                  have hf9 : Fresh (w8.alloc (Obj.cells #[.string ((⟨#[97, 98, 99, 100]⟩ : ByteArray).extract l (l + 1) ++ X)] 9)).drew kw (.slice (some ⟨gg, 0, none⟩) (m + 1) cap2) := app_fresh (H := w8.heap.size + 1) (by rw [HKW.out]; exact hat) (by show (w8.alloc _).heap.size ≤ w8.heap.size + 1; simp)
                  have HI10 := (HI8.out.no (((Mod.refl _ _).alloc (Obj.cells #[.string ((⟨#[97, 98, 99, 100]⟩ : ByteArray).extract l (l + 1) ++ X)] 9)).drew)).word (by rw [HKW.out]; exact hgrow) hr9 hf9
                  have hQ9 : Blk w9 Q (qc Nv (l + 1)) 106 := ((HQ8.out.alloc _).drew).grown hgrow (fun e => HQ8.out.apart HI8.out.wo (by decide) (by rw [HKW.out]; exact e.symm))
                  have HQ10 : Hid (Blk (w9.setCell ⟨C, 1, none⟩ (.slice (some ⟨gg, 0, none⟩) (m + 1) cap2)) Q (qc Nv (l + 1)) 106) := hQ9.other (a := ⟨C, 1, none⟩) (HQ8.out.diff HI8.out.kin (by decide)) _
                  generalize w9.setCell ⟨C, 1, none⟩ (.slice (some ⟨gg, 0, none⟩) (m + 1) cap2) = w10 at HI10 HQ10 ⊢
                  have HI10 : Hid (KI w vx vh a C ka (.slice (some ⟨gg, 0, none⟩) (m + 1) cap2) kh2 { { Ks l with hits := (Ks (l + 1)).hits } with words := (Ks l).words ++ [M2.letterOf l ++ x] } w10) := HI10
                  clear hr9 hf9 hQ9 hown9 hgrow hat hltt s0 s1 hown2 d1 K1 F1 cx hinf hz0 hz1 hz2
                  go_wp2
                  go_roundg (4 - (l + 1))
                  case measure => omega
                  case rel => exact ⟨l + 1, _, kh2, by go_num, by omega, rfl, by rw [HKE.out]; exact HI10.out, HQ10.out⟩
              · have hnm : ((Nv l : Int) == (m : Int)) = false := by rw [beq_eq_false_iff_ne]; omega
                have HKE : Hid (Ks (l + 1) = { Ks l with hits := (Ks (l + 1)).hits }) := by
                  show Ks (l + 1) = _
                  have h1 := HS.out.ad
                  revert h1 hwx
                  generalize Ks (l + 1) = kk
                  intro h1 h2
                  cases kk
                  simp at h1 h2 ⊢
                  exact ⟨h2, h1⟩
                clear hown2 hkw hw8 hmz hwx hold
                go_quiet (fail)
                go_wp2
                go_roundg (4 - (l + 1))
                case measure => omega
                case rel => exact ⟨l + 1, kw, kh2, by go_num, by omega, rfl, by rw [HKE.out]; exact HI7.out.no ((Mod.refl _ _).drewN _), HQ7.out.drewN _⟩
          · obtain rfl : l = 4 := by omega
            obtain ⟨o1, o2, o3, o4⟩ := HSP.out 4 (by omega)
            obtain ⟨m, hm⟩ : ∃ m, m = (Ks 4).hits.length := ⟨_, rfl⟩
            obtain ⟨ha3, hcap3, hkh, -, -⟩ := hI.hi.open hm.symm
            have c2 := hI.kin.cell 2 rfl
            rw [hkh] at c2
            rcases HEND.out with ⟨hbig, rfl⟩ | ⟨hsmall, hgo2⟩
            · have hm24 : (24 : Int) < (m : Int) := by omega
              have r0 := hI.res.cell 0 rfl
              have r1 := hI.res.cell 1 rfl
              have r2 := hI.res.cell 2 rfl
              have f0 := hI.res.free 0
              have f1 := hI.res.free 1
              have f2 := hI.res.free 2
              clear hI hQ hkh
              go_wp2
              refine bodyPost_ret (v := .tuple #[.agg #[nilS, nilS, nilS], .bool false]) (by simp [results, Tryz.results58, go_sem, r0, r1, r2]) rfl ?_
              refine ⟨?_, rfl⟩
              have hC := HI.out.oC
              exact ((HI.out.md.setCell (a := ⟨w.heap.size + 1, 0, none⟩) (fun e => absurd e (by simp)) _).setCell (a := ⟨w.heap.size + 1, 1, none⟩) (fun e => absurd e (by simp)) _).setCell (a := ⟨w.heap.size + 1, 2, none⟩) (fun e => absurd e (by simp)) _
            · have hm24 : ¬ (24 : Int) < (m : Int) := by omega
              have HGO2 : Hid (M2.kindsGo a g (i + 1) { Ks 4 with ahead := (Ks 4).ahead ++ [⟨Nv 0, Nv 1, Nv 2, Nv 3⟩] } = some r) := hgo2
              obtain ⟨i0, hinf, hz0, hz1, hz2⟩ := info_parts Tryz.info106
              have d0 := hI.kin.cell 0 rfl
              rw [HKA.out] at d0
              change Blk wr Q [.int .i64 (Nv 0 : Int), .int .i64 (Nv 1 : Int), .int .i64 (Nv 2 : Int), .int .i64 (Nv 3 : Int)] 106 at hQ
              have q0 := hQ.cell 0 rfl
              have q1 := hQ.cell 1 rfl
              have q2 := hQ.cell 2 rfl
              have q3 := hQ.cell 3 rfl
              have HLN : Hid ((Ks 4).ahead.length = i) := by show (Ks 4).ahead.length = i; rw [o4]; exact HAH.out
              have hown : wr.ownsRow 0 106 4 (.slice ha1 i hcap1) i ((Ks 4).ahead.flatMap R4E.f) := by
                have h2 : wr.ownsRow 0 106 4 ka (Ks 4).ahead.length ((Ks 4).ahead.flatMap R4E.f) := hI.ah
                rwa [HLN.out, HKA.out] at h2
              have hKlt := hI.kin.lt
              have hAx : some C ≠ (Value.slice ha1 i hcap1).ownBlock := by rw [← HKA.out]; exact fun e => hI.kin.apart hI.ah (by decide) e.symm
              have HO1 : Hid (KOk (Ks 4) ∧ (Ks 4).hits.length ≤ 24) := ⟨o1, by omega⟩
              clear hI hQ hgo2 o1 o2 o3 o4 hkh
              go_wp2_with (at_builtin; refine wpList_append_lies _ rfl _ _ 84 rfl 0 106 i0 _ 4 32 Tryz.underlying84 hinf hz0 hz1 hz2 rfl (by omega) (.slice ha1 i hcap1) i ((Ks 4).ahead.flatMap R4E.f) rfl (hown.alloc _) ⟨wr.heap.size, 0, none⟩ 1 1 [.int .i64 (Nv 0 : Int), .int .i64 (Nv 1 : Int), .int .i64 (Nv 2 : Int), .int .i64 (Nv 3 : Int)] rfl rfl (World.news_of_block (cs := #[.int .i64 (Nv 0 : Int), .int .i64 (Nv 1 : Int), .int .i64 (Nv 2 : Int), .int .i64 (Nv 3 : Int)]) (t := 106) (fr := (0, 0)) (heap_alloc_new wr _)) (by intro u hu; simp at hu; rcases hu with rfl | rfl | rfl | rfl <;> rfl) (by omega) (by unfold maxLen; omega) (by omega) (by simp) (wr.heap.size + 1) (by simp) ?_)
              intro gg cap2 w7 hown7 hgrow hat hltt
              have HIA := HI.out.no ((Mod.refl _ _).alloc (Obj.cells #[.int .i64 (Nv 0 : Int), .int .i64 (Nv 1 : Int), .int .i64 (Nv 2 : Int), .int .i64 (Nv 3 : Int)] 106))
              have hr7 : Row R4E w7 (.slice (some ⟨gg, 0, none⟩) (i + 1) cap2) ((Ks 4).ahead ++ [⟨Nv 0, Nv 1, Nv 2, Nv 3⟩]) := app_row HLN.out rfl hown7
              have hf7 : Fresh (wr.alloc (Obj.cells #[.int .i64 (Nv 0 : Int), .int .i64 (Nv 1 : Int), .int .i64 (Nv 2 : Int), .int .i64 (Nv 3 : Int)] 106)) ka (.slice (some ⟨gg, 0, none⟩) (i + 1) cap2) := app_fresh (H := wr.heap.size + 1) (by rw [HKA.out]; exact hat) (by simp)
              have hK7 : Blk w7 C [ka, kw, kh] 87 := HIA.kin.grown hgrow hAx
              have a0 := hK7.cell 0 rfl
              rw [HKA.out] at a0
              have b0 := hK7.free 0
              have HI8 := HIA.row (by rw [HKA.out]; exact hgrow) hr7 hf7
              obtain ⟨w8, hw8⟩ : ∃ w8, w7.setCell ⟨C, 0, none⟩ (.slice (some ⟨gg, 0, none⟩) (i + 1) cap2) = w8 := ⟨_, rfl⟩
              rw [hw8] at HI8
              have HI8 : Hid (KI w vx vh a C (.slice (some ⟨gg, 0, none⟩) (i + 1) cap2) kw kh { Ks 4 with ahead := (Ks 4).ahead ++ [⟨Nv 0, Nv 1, Nv 2, Nv 3⟩] } w8) := HI8
              clear HIA hf7 hr7 hK7 hown7 hgrow hat hltt hown d0 q0 q1 q2 q3 hinf hz0 hz1 hz2 hAx HI HQ
              go_wp2
              go_roundg g
              case measure => omega
              case rel =>
                have hlen : i + 1 ≤ 30 := by omega
                exact ⟨i + 1, _, kw, kh, _, by go_num, HI8.out, ⟨HO1.out.1.six, HO1.out.1.len, HO1.out.1.pos, HO1.out.1.wl⟩, HO1.out.2, HGO2.out, by simp [HLN.out], hlen⟩
end Go.Proofs.YtmbapmbpnnaanabGreatDoor
