import Derived.Test.YtmbapmbpnnaanabGreatDoorMF
namespace Go.Proofs.YtmbapmbpnnaanabGreatDoor
open Go.RowKit
attribute [local go_sem ↓] Go.wp_at_zero Go.wp_at_succ

/-- The worlds that differ by new blocks alone. -/
def After (W : World) : Type := { w' : World // Mod No W w' }
theorem wp_region_calm {P : Program} {W : World} {id : Nat} {Q : Exit → Act → World → Prop} {a : Act} {l : List Oper} (hm : P.follows .mixedOrders = true) (hB : Region.lexB .any l.toArray = true)
    (h : wpQuiet P l.toArray (fun w' => ∃ x : After W, w' = x.val) (fun a' => ∀ w', (∃ x : After W, w' = x.val) → Q .normal a' w') l a) : (Code.region id l.toArray true).wp P Q a W :=
  wp_region_quiet (C := fun w' => ∃ x : After W, w' = x.val) hm hB ⟨⟨W.drew, (Mod.refl _ _).drew⟩, rfl⟩ (by simpa using h)
theorem Calls.calm {P : Program} {f : FuncId} {args : Array Value} {W : World} {x : After W} {v : Value} (h : Calls P f args x.val fun e w' => e = .returned v ∧ Mod No x.val w') : Calls P f args x.val fun e w'' => e = .returned v ∧ ∃ y : After W, w'' = y.val :=
  h.mono fun _ w' ⟨he, hm⟩ => ⟨he, ⟨w', x.property.no hm⟩, rfl⟩

def dc (d : Nat × List UInt8) : List Value := [.int .i64 (d.1 : Int), .string ⟨d.2.toArray⟩]
theorem choose_step {k : M2.Kinds} {kind : Nat} {prs : List (Mir.Rule × Value)} {ss : List Nat} {i : Nat} {d r : Nat × List UInt8} {p : Mir.Rule × Value} {s : Nat} (hp : prs[i]? = some p) (hs : ss[i]? = some s) (h : M2.chooseGo k kind ((prs.drop i).map Prod.fst) (ss.drop i) d = some r) :
    M2.chooseGo k kind ((prs.drop (i + 1)).map Prod.fst) (ss.drop (i + 1)) (if M2.isHitM k kind s && decide (d.1 < p.1.fr.length) then (p.1.fr.length, p.1.tt) else d) = some r := by
  obtain ⟨h1, h2⟩ := List.getElem?_eq_some_iff.1 hp
  obtain ⟨h3, h4⟩ := List.getElem?_eq_some_iff.1 hs
  rw [List.drop_eq_getElem_cons h1, List.drop_eq_getElem_cons h3, List.map_cons, M2.chooseGo, h2, h4] at h
  exact h

structure CI (w : World) (ka kw kh : Value) (vr : Value) (prs : List (Mir.Rule × Value)) (vs : Value) (ss : List Nat) (d : Nat × List UInt8) (wr : World) : Prop where
  box : Blk wr w.heap.size [ka, kw, kh] 87
  res : Blk wr (w.heap.size + 1) (dc (0, [])) 149
  dd : Blk wr (w.heap.size + 1 + 1) (dc d) 149
  ru : Row RuE wr vr prs
  st : Row InE wr vs ss
  md : Mod No w wr
theorem CI.no {w : World} {ka kw kh : Value} {vr : Value} {prs : List (Mir.Rule × Value)} {vs : Value} {ss : List Nat} {d : Nat × List UInt8} {wr wr' : World} (h : CI w ka kw kh vr prs vs ss d wr) (hm : Mod No wr wr') : CI w ka kw kh vr prs vs ss d wr' :=
  ⟨h.box.mod hm (fun x => x), h.res.mod hm (fun x => x), h.dd.mod hm (fun x => x), h.ru.no hm, h.st.no hm, h.md.no hm⟩
theorem CI.put {w : World} {ka kw kh : Value} {vr : Value} {prs : List (Mir.Rule × Value)} {vs : Value} {ss : List Nat} {d : Nat × List UInt8} {wr : World} (h : CI w ka kw kh vr prs vs ss d wr) (d' : Nat × List UInt8) : CI w ka kw kh vr prs vs ss d' ((wr.setCell ⟨w.heap.size + 1 + 1, 0, none⟩ (.int .i64 (d'.1 : Int))).setCell ⟨w.heap.size + 1 + 1, 1, none⟩ (.string ⟨d'.2.toArray⟩)) := by
  have hm : Mod (fun q => q = w.heap.size + 1 + 1) wr ((wr.setCell ⟨w.heap.size + 1 + 1, 0, none⟩ (.int .i64 (d'.1 : Int))).setCell ⟨w.heap.size + 1 + 1, 1, none⟩ (.string ⟨d'.2.toArray⟩)) := ((Mod.refl (fun q => q = w.heap.size + 1 + 1) wr).setCell (a := ⟨w.heap.size + 1 + 1, 0, none⟩) (fun _ => rfl) _).setCell (a := ⟨w.heap.size + 1 + 1, 1, none⟩) (fun _ => rfl) _
  exact ⟨h.box.mod hm (by omega), h.res.mod hm (by omega), (h.dd.set 0 _).set 1 _, h.ru.mod hm (fun g hg e => h.dd.apart h.ru (by decide) (by rw [hg, e])), h.st.mod hm (fun g hg e => h.dd.apart h.st (by decide) (by rw [hg, e])), h.md.trans' hm (fun k hk e => by omega)⟩

set_option maxHeartbeats 4000000 in
set_option maxRecDepth 100000 in
theorem choose_any (w : World) (a1 a2 : Option Addr) (n1 c1 n2 c2 : Nat) (kh : Value) (k : M2.Kinds) (kind : Nat) (vr : Value) (prs : List (Mir.Rule × Value)) (vs : Value) (ss : List Nat) (hru : Row RuE w vr prs) (hss : Row InE w vs ss) (hsl : ∀ r ∈ prs, ∃ a n c, r.2 = .slice a n c) (hfr : ∀ r ∈ prs, r.1.fr.length ≤ 1000) (hlen : prs.length = ss.length) (hs6 : ∀ s ∈ ss, s < 60) (hh : Row HiE w kh k.hits) (h6 : ∀ h ∈ k.hits, h.length = 60) (hk : kind < k.hits.length) (hl : k.hits.length ≤ 1000) (hpl : prs.length ≤ 1000) {r : Nat × List UInt8} (hM : M2.chooseGo k kind (prs.map Prod.fst) ss (0, []) = some r) :
    Calls Tryz.prog 59 #[vr, vs, .agg #[.slice a1 n1 c1, .slice a2 n2 c2, kh], .int .i64 (kind : Int)] w fun e w' => e = .returned (.agg (dc r).toArray) ∧ Mod No w w' := by
  obtain ⟨a3, n3, c3, hkh⟩ : ∃ a n c, kh = .slice a n c := by obtain ⟨a, c, h, _⟩ := hh.any; exact ⟨_, _, _, h⟩
  have H47 : Hid (∀ (wx : World) (s : Nat), Mod No w wx → s < 60 → Calls Tryz.prog 93 #[.agg #[.slice a1 n1 c1, .slice a2 n2 c2, .slice a3 n3 c3], .int .i64 (kind : Int), .int .i64 (s : Int)] wx fun e w' => e = .returned (.bool (M2.isHitM k kind s)) ∧ Mod No wx w') := fun wx s hm hs => by
    rw [← hkh]
    exact isHitK_any wx a1 a2 n1 c1 n2 c2 kh k kind s (hh.no hm) h6 hk hs hl
  obtain ⟨n, hn⟩ : ∃ n, n = prs.length := ⟨_, rfl⟩
  obtain ⟨ra, rcap, hvr, -, -⟩ := hru.open hn.symm
  obtain ⟨sa, scap, hvs, -, -⟩ := hss.open (n := n) (by omega)
  have HVR : Hid (vr = .slice ra n rcap ∧ vs = .slice sa n scap) := ⟨hvr, hvs⟩
  have HL : Hid (n = prs.length ∧ n = ss.length) := ⟨hn, by omega⟩
  have HSL : Hid (∀ r ∈ prs, ∃ a n c, r.2 = .slice a n c) := hsl
  have HFR : Hid (∀ r ∈ prs, r.1.fr.length ≤ 1000) := hfr
  have HS6 : Hid (∀ s ∈ ss, s < 60) := hs6
  have HM : Hid (M2.chooseGo k kind ((prs.drop 0).map Prod.fst) (ss.drop 0) (0, []) = some r) := hM
  have HI0 : Hid (∀ A B C, A = Obj.cells #[.slice a1 n1 c1, .slice a2 n2 c2, .slice a3 n3 c3] 87 → B = Obj.cells #[.int .i64 0, .string ⟨#[]⟩] 149 → C = Obj.cells #[.int .i64 0, .string ⟨#[]⟩] 149 → CI w (.slice a1 n1 c1) (.slice a2 n2 c2) (.slice a3 n3 c3) vr prs vs ss (0, []) (((w.alloc A).alloc B).alloc C)) := by
    intro A B C hA hB hC
    subst hA hB hC
    have m : Mod No w (((w.alloc (Obj.cells #[.slice a1 n1 c1, .slice a2 n2 c2, .slice a3 n3 c3] 87)).alloc (Obj.cells #[.int .i64 0, .string ⟨#[]⟩] 149)).alloc (Obj.cells #[.int .i64 0, .string ⟨#[]⟩] 149)) := (((Mod.refl _ _).alloc _).alloc _).alloc _
    exact ⟨new3_0 w _ _ _, new3_1 w _ _ _, new3_2 w _ _ _, hru.no m, hss.no m, m⟩
  have hn1 : n ≤ 1000 := by omega
  clear hru hss hsl hfr hs6 hh h6 hM hl
  rw [hkh, hvr, hvs]
  clear hkh hvr hvs hlen hn hpl
  go_enter Tryz.func59, Tryz.ntmps59
  go_wp2_with fail
  have HI1 := HI0.out _ _ _ rfl rfl rfl
  clear HI0
  generalize ((w.alloc (Obj.cells #[.slice a1 n1 c1, .slice a2 n2 c2, .slice a3 n3 c3] 87)).alloc (Obj.cells #[.int .i64 0, .string ⟨#[]⟩] 149)).alloc (Obj.cells #[.int .i64 0, .string ⟨#[]⟩] 149) = W0 at HI1 ⊢
  have HI1 : Hid (CI w (.slice a1 n1 c1) (.slice a2 n2 c2) (.slice a3 n3 c3) vr prs vs ss (0, []) W0) := HI1
  go_loopg [14] n (fun gh v14 wr => ∃ (i : Nat) (d : Nat × List UInt8), i ≤ n ∧ gh = n - i ∧ v14 = .int .i64 (i : Int) ∧ d.1 ≤ 1000 ∧ M2.chooseGo k kind ((prs.drop i).map Prod.fst) (ss.drop i) d = some r ∧ CI w (.slice a1 n1 c1) (.slice a2 n2 c2) (.slice a3 n3 c3) vr prs vs ss d wr)
  case atStart => exact ⟨0, (0, []), by omega, by omega, rfl, by simp, HM.out, HI1.out⟩
  case round =>
    obtain ⟨i, d, hin, hgk, rfl, hd1, hgo, hI⟩ := hrel
    have HI : Hid (CI w (.slice a1 n1 c1) (.slice a2 n2 c2) (.slice a3 n3 c3) vr prs vs ss d wr) := hI
    clear HI1 HM
    by_cases hlt : i < n
    · obtain ⟨p, hp⟩ : ∃ p, prs[i]? = some p := ⟨prs[i]'(by have := HL.out.1; omega), List.getElem?_eq_getElem _⟩
      obtain ⟨s, hs⟩ : ∃ s, ss[i]? = some s := ⟨ss[i]'(by have := HL.out.2; omega), List.getElem?_eq_getElem _⟩
      have HGO : Hid (M2.chooseGo k kind ((prs.drop (i + 1)).map Prod.fst) (ss.drop (i + 1)) (if M2.isHitM k kind s && decide (d.1 < p.1.fr.length) then (p.1.fr.length, p.1.tt) else d) = some r) := choose_step hp hs hgo
      obtain ⟨gr, hgr⟩ : ∃ g, ra = some ⟨g, 0, none⟩ := by
        obtain ⟨g2, c2, h2, -⟩ := hI.ru.form (by have := HL.out.1; omega)
        rw [HVR.out.1] at h2
        injection h2 with h2 _
        exact ⟨g2, h2⟩
      obtain ⟨gs, hgs⟩ : ∃ g, sa = some ⟨g, 0, none⟩ := by
        obtain ⟨g2, c2, h2, -⟩ := hI.st.form (by have := HL.out.2; omega)
        rw [HVR.out.2] at h2
        injection h2 with h2 _
        exact ⟨g2, h2⟩
      subst hgr hgs
      have hru := hI.ru
      rw [HVR.out.1] at hru
      have hst := hI.st
      rw [HVR.out.2] at hst
      obtain ⟨pa, pn, pc, hpv⟩ := HSL.out p (List.mem_of_getElem? hp)
      have hpf := HFR.out p (List.mem_of_getElem? hp)
      have hs60 := HS6.out s (List.mem_of_getElem? hs)
      obtain ⟨⟨fr, tt, ps, wh⟩, pv⟩ := p
      simp only at hpv hpf HGO
      subst hpv
      have r0 : wr.cell? ⟨gr, i * 6, none⟩ = some (.string ⟨fr.toArray⟩) := hru.cell i 0 hp rfl
      have r1 : wr.cell? ⟨gr, i * 6 + 1, none⟩ = some (.string ⟨tt.toArray⟩) := hru.cell i 1 hp rfl
      have r2 : wr.cell? ⟨gr, i * 6 + 2, none⟩ = some (.slice pa pn pc) := hru.cell i 2 hp rfl
      have r3 : wr.cell? ⟨gr, i * 6 + 3, none⟩ = some (.bool wh.e) := hru.cell i 3 hp rfl
      have r4 : wr.cell? ⟨gr, i * 6 + 4, none⟩ = some (.int .u32 (wh.f : Int)) := hru.cell i 4 hp rfl
      have r5 : wr.cell? ⟨gr, i * 6 + 5, none⟩ = some (.int .u32 (wh.l : Int)) := hru.cell i 5 hp rfl
      have HH47 : Hid (∀ wx, Mod No w wx → Calls Tryz.prog 93 #[.agg #[.slice a1 n1 c1, .slice a2 n2 c2, .slice a3 n3 c3], .int .i64 (kind : Int), .int .i64 (s : Int)] wx fun e w' => e = .returned (.bool (M2.isHitM k kind s)) ∧ Mod No wx w') := fun wx hm => H47.out wx s hm hs60
      have HSI : Hid (ss[i]? = some s) := hs
      have hii : (i : Int) < (n : Int) := by omega
      generalize M2.isHitM k kind s = hb at HGO HH47
      obtain ⟨FR, hFR⟩ : ∃ FR, FR = (⟨fr.toArray⟩ : ByteArray) := ⟨_, rfl⟩
      obtain ⟨TT, hTT⟩ : ∃ TT, TT = (⟨tt.toArray⟩ : ByteArray) := ⟨_, rfl⟩
      rw [← hFR] at r0
      rw [← hTT] at r1
      have HFT : Hid (FR.size = fr.length ∧ TT = (⟨tt.toArray⟩ : ByteArray)) := ⟨by rw [hFR]; show fr.toArray.size = _; simp, hTT⟩
      clear hI hru hst hp hs hgo hFR hTT
      go_wp2_with fail
      have HI2 : Hid (CI w (.slice a1 n1 c1) (.slice a2 n2 c2) (.slice a3 n3 c3) vr prs vs ss d (wr.alloc (Obj.cells #[.string FR, .string TT, .slice pa pn pc, .bool wh.e, .int .u32 (wh.f : Int), .int .u32 (wh.l : Int)] 138))) := HI.out.no ((Mod.refl _ _).alloc _)
      have HP2 : Hid (Blk (wr.alloc (Obj.cells #[.string FR, .string TT, .slice pa pn pc, .bool wh.e, .int .u32 (wh.f : Int), .int .u32 (wh.l : Int)] 138)) wr.heap.size [.string FR, .string TT, .slice pa pn pc, .bool wh.e, .int .u32 (wh.f : Int), .int .u32 (wh.l : Int)] 138) := heap_alloc_new wr _
      generalize wr.alloc (Obj.cells #[.string FR, .string TT, .slice pa pn pc, .bool wh.e, .int .u32 (wh.f : Int), .int .u32 (wh.l : Int)] 138) = W2 at HI2 HP2 ⊢
      generalize wr.heap.size = P at HP2 ⊢
      clear HI r0 r1 r2 r3 r4 r5
      have b0 := HI2.out.box.cell 0 rfl
      have b1 := HI2.out.box.cell 1 rfl
      have b2 := HI2.out.box.cell 2 rfl
      have hst := HI2.out.st
      rw [HVR.out.2] at hst
      have cs := InE.cell hst HSI.out
      clear hst
      go_cut [14, 33] from 14 to 40 (fun s14 s33 wc => s14 = .int .i64 (i : Int) ∧ s33 = .bool (hb && decide (d.1 < fr.length)) ∧ Mod No W2 wc)
      case first =>
        have hfi := HFT.out.1
        have hne : Nonempty (After W2) := ⟨⟨W2, Mod.refl _ _⟩⟩
        have e0 : ∀ x : After W2, x.val.cell? ⟨w.heap.size, 0, none⟩ = some (.slice a1 n1 c1) := fun x => (HI2.out.box.mod x.property (fun y => y)).cell 0 rfl
        have e1 : ∀ x : After W2, x.val.cell? ⟨w.heap.size, 1, none⟩ = some (.slice a2 n2 c2) := fun x => (HI2.out.box.mod x.property (fun y => y)).cell 1 rfl
        have e2 : ∀ x : After W2, x.val.cell? ⟨w.heap.size, 2, none⟩ = some (.slice a3 n3 c3) := fun x => (HI2.out.box.mod x.property (fun y => y)).cell 2 rfl
        have e3 : ∀ x : After W2, x.val.cell? ⟨gs, i, none⟩ = some (.int .i64 (s : Int)) := fun x => by
          have h := HI2.out.st.no x.property
          rw [HVR.out.2] at h
          exact InE.cell h HSI.out
        have e4 : ∀ x : After W2, x.val.cell? ⟨P, 0, none⟩ = some (.string FR) := fun x => (HP2.out.mod x.property (fun y => y)).cell 0 rfl
        have e5 : ∀ x : After W2, x.val.cell? ⟨w.heap.size + 1 + 1, 0, none⟩ = some (.int .i64 (d.1 : Int)) := fun x => (HI2.out.dd.mod x.property (fun y => y)).cell 0 rfl
        clear b0 b1 b2 cs
        cases hb with
        | false =>
          refine wp_region_calm (by kernel_rfl) (by kernel_rfl) ?_
          repeat (quiet_step (exact Calls.calm (HH47.out _ (HI2.out.md.no (Subtype.property _)))))
          refine wpQuiet_nil ?_
          rintro _ ⟨x, rfl⟩
          go_wp2_with fail
          go_meet
          exact ⟨rfl, rfl, x.property⟩
        | true =>
          refine wp_region_calm (by kernel_rfl) (by kernel_rfl) ?_
          repeat (quiet_step (exact Calls.calm (HH47.out _ (HI2.out.md.no (Subtype.property _)))))
          refine wpQuiet_nil ?_
          rintro _ ⟨x, rfl⟩
          go_wp2_with fail
          go_meet
          exact ⟨rfl, by simp, x.property⟩
      case rest =>
        obtain ⟨rfl, rfl, mc⟩ := hcut
        have HI3 : Hid (CI w (.slice a1 n1 c1) (.slice a2 n2 c2) (.slice a3 n3 c3) vr prs vs ss d wc) := HI2.out.no mc
        have HP3 : Hid (Blk wc P [.string FR, .string TT, .slice pa pn pc, .bool wh.e, .int .u32 (wh.f : Int), .int .u32 (wh.l : Int)] 138) := HP2.out.mod mc (fun x => x)
        clear HI2 HP2 mc b0 b1 b2 cs HH47
        cases hq : (hb && decide (d.1 < fr.length)) with
        | true =>
          have HGO2 : Hid (M2.chooseGo k kind ((prs.drop (i + 1)).map Prod.fst) (ss.drop (i + 1)) (fr.length, tt) = some r) := by have h := HGO.out; rw [hq] at h; exact h
          have p0 := HP3.out.cell 0 rfl
          have p1 := HP3.out.cell 1 rfl
          have d0 := HI3.out.dd.cell 0 rfl
          have d1 := HI3.out.dd.cell 1 rfl
          have f0 := HI3.out.dd.free 0
          have f1 := HI3.out.dd.free 1
          clear HGO hq
          go_wp2
          go_roundg (n - (i + 1))
          case measure => omega
          case rel => exact ⟨i + 1, (fr.length, tt), by omega, rfl, by go_num, hpf, HGO2.out, by rw [HFT.out.1, HFT.out.2]; exact HI3.out.put (fr.length, tt)⟩
        | false =>
          have HGO2 : Hid (M2.chooseGo k kind ((prs.drop (i + 1)).map Prod.fst) (ss.drop (i + 1)) d = some r) := by have h := HGO.out; rw [hq] at h; exact h
          clear HGO hq
          go_wp2
          go_roundg (n - (i + 1))
          case measure => omega
          case rel => exact ⟨i + 1, d, by omega, rfl, by go_num, hd1, HGO2.out, HI3.out⟩
    · obtain rfl : i = n := by omega
      have e1 : prs.drop i = [] := List.drop_of_length_le (by have := HL.out.1; omega)
      have e2 : ss.drop i = [] := List.drop_of_length_le (by have := HL.out.2; omega)
      rw [e1, e2] at hgo
      have HR : Hid (d = r) := Option.some.inj hgo
      have d0 := hI.dd.cell 0 rfl
      have d1 := hI.dd.cell 1 rfl
      have r0 := hI.res.cell 0 rfl
      have r1 := hI.res.cell 1 rfl
      have f0 := hI.res.free 0
      have f1 := hI.res.free 1
      clear hI hgo e1 e2
      go_wp2
      refine bodyPost_ret (v := .agg #[.int .i64 (d.1 : Int), .string ⟨d.2.toArray⟩]) (by simp [results, Tryz.results59, go_sem, r0, r1]) rfl ⟨by rw [← HR.out]; rfl, ?_⟩
      exact (HI.out.md.setCell (a := ⟨w.heap.size + 1, 0, none⟩) (fun e => absurd e (by simp)) _).setCell (a := ⟨w.heap.size + 1, 1, none⟩) (fun e => absurd e (by simp)) _
end Go.Proofs.YtmbapmbpnnaanabGreatDoor
