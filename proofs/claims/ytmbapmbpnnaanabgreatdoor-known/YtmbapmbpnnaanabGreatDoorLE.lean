import Derived.Test.YtmbapmbpnnaanabGreatDoorLC
namespace Go.Proofs.YtmbapmbpnnaanabGreatDoor
open Go.RowKit
attribute [local go_sem ↓] Go.wp_at_zero Go.wp_at_succ

/-- Where 'Add' stands. -/
structure AI (w : World) (b X : Nat) (vx0 vh0 ux uh : Value) (c : M2.Auto) (lx lh : Value) (au : M2.Auto) (wr : World) : Prop where
  box : Blk wr X [ux, uh] 142
  aut : Blk wr b [lx, lh] 142
  nx : Row R4E wr lx au.nx
  hit : Row BoE wr lh au.hit
  rx : Row R4E wr ux c.nx
  rh : Row BoE wr uh c.hit
  md : Mod (fun k => k = b ∨ vx0.ownBlock = some k ∨ vh0.ownBlock = some k) w wr
  fx : Fresh w vx0 lx
  fh : Fresh w vh0 lh
  nux : ∀ g, lx.ownBlock = some g → ux.ownBlock ≠ some g
  nuh : ∀ g, lh.ownBlock = some g → uh.ownBlock ≠ some g
  nXb : X ≠ b
  oX : w.heap.size ≤ X
section
variable {w : World} {b X : Nat} {vx0 vh0 ux uh : Value} {c : M2.Auto} {lx lh : Value} {au : M2.Auto} {wr wr' : World}
theorem AI.no (h : AI w b X vx0 vh0 ux uh c lx lh au wr) (hm : Mod No wr wr') : AI w b X vx0 vh0 ux uh c lx lh au wr' :=
  ⟨h.box.mod hm (fun x => x), h.aut.mod hm (fun x => x), h.nx.no hm, h.hit.no hm, h.rx.no hm, h.rh.no hm, h.md.no hm, h.fx, h.fh, h.nux, h.nuh, h.nXb, h.oX⟩
theorem AI.put {Q : Nat} {cs : List Value} (h : AI w b X vx0 vh0 ux uh c lx lh au wr) (hQ : Blk wr Q cs 106) (h0 : w.heap.size ≤ Q) (hx : lx.ownBlock ≠ some Q) (hu : ux.ownBlock ≠ some Q) (j : Nat) (v : Value) : AI w b X vx0 vh0 ux uh c lx lh au (wr.setCell ⟨Q, j, none⟩ v) :=
  ⟨h.box.other (a := ⟨Q, j, none⟩) (fun e => hQ.diff h.box (by decide) e.symm) _, h.aut.other (a := ⟨Q, j, none⟩) (fun e => hQ.diff h.aut (by decide) e.symm) _, h.nx.other (a := ⟨Q, j, none⟩) hx _, h.hit.other (a := ⟨Q, j, none⟩) (hQ.apart h.hit (by decide)) _,
   h.rx.other (a := ⟨Q, j, none⟩) hu _, h.rh.other (a := ⟨Q, j, none⟩) (hQ.apart h.rh (by decide)) _, h.md.setCell (a := ⟨Q, j, none⟩) (fun e => absurd e (by simp; omega)) _, h.fx, h.fh, h.nux, h.nuh, h.nXb, h.oX⟩
theorem fresh_more {v0 v1 v2 : Value} (h : Fresh w v0 v1) (hs : w.heap.size ≤ wr.heap.size) (h2 : Fresh wr v1 v2) : Fresh w v0 v2 := h.trans h2 hs
theorem AI.moreX {w7 : World} {v2 : Value} {nx2 : List Mir.R4} (h : AI w b X vx0 vh0 ux uh c lx lh au wr) (hg : wr.grownBy w7 lx.ownBlock) (hrow : Row R4E w7 v2 nx2) (hf : Fresh wr lx v2) : AI w b X vx0 vh0 ux uh c v2 lh ⟨nx2, au.hit⟩ (w7.setCell ⟨b, 0, none⟩ v2) := by
  have kb : ∀ {b : Nat} {cs : List Value} {T : Nat}, Blk wr b cs T → T ≠ 106 → Blk w7 b cs T := fun hb ht => hb.grown hg (fun e => hb.apart h.nx ht e.symm)
  have kr : ∀ {v : Value} {xs : List Bool}, Row BoE wr v xs → Row BoE w7 v xs := fun {v xs} hr => hr.grown hg (by
    cases e : v.ownBlock with
    | none => exact .inl rfl
    | some g => exact .inr fun e2 => hr.apart h.nx (by decide) e e2.symm)
  have hA := kb h.aut (by decide)
  have hrx : Row R4E w7 ux c.nx := h.rx.grown hg (by
    cases e : ux.ownBlock with
    | none => exact .inl rfl
    | some g => exact .inr fun e2 => h.nux g e2.symm e)
  have hm7 : Mod (fun k => k = b ∨ vx0.ownBlock = some k ∨ vh0.ownBlock = some k) w w7 := h.md.grown hg fun g e hlt => by
    rcases h.fx g e with h1 | h1
    · exact Or.inr (Or.inl h1)
    · omega
  refine ⟨(kb h.box (by decide)).other (a := ⟨b, 0, none⟩) h.nXb _, hA.set 0 v2, hrow.other (a := ⟨b, 0, none⟩) (hA.apart hrow (by decide)) _, (kr h.hit).other (a := ⟨b, 0, none⟩) (hA.apart (kr h.hit) (by decide)) _,
    hrx.other (a := ⟨b, 0, none⟩) (hA.apart hrx (by decide)) _, (kr h.rh).other (a := ⟨b, 0, none⟩) (hA.apart (kr h.rh) (by decide)) _, hm7.setCell (a := ⟨b, 0, none⟩) (fun _ => Or.inl rfl) _, fresh_more h.fx h.md.size hf, h.fh, fun g e1 e2 => ?_, h.nuh, h.nXb, h.oX⟩
  rcases hf g e1 with h1 | h1
  · exact h.nux g h1 e2
  · have := h.rx.lt e2; omega
theorem AI.moreH {w7 : World} {v2 : Value} {ht2 : List Bool} (h : AI w b X vx0 vh0 ux uh c lx lh au wr) (hg : wr.grownBy w7 lh.ownBlock) (hrow : Row BoE w7 v2 ht2) (hf : Fresh wr lh v2) : AI w b X vx0 vh0 ux uh c lx v2 ⟨au.nx, ht2⟩ (w7.setCell ⟨b, 1, none⟩ v2) := by
  have kb : ∀ {b : Nat} {cs : List Value} {T : Nat}, Blk wr b cs T → T ≠ 4 → Blk w7 b cs T := fun hb ht => hb.grown hg (fun e => hb.apart h.hit ht e.symm)
  have kr : ∀ {v : Value} {xs : List Mir.R4}, Row R4E wr v xs → Row R4E w7 v xs := fun {v xs} hr => hr.grown hg (by
    cases e : v.ownBlock with
    | none => exact .inl rfl
    | some g => exact .inr fun e2 => hr.apart h.hit (by decide) e e2.symm)
  have hA := kb h.aut (by decide)
  have hrh : Row BoE w7 uh c.hit := h.rh.grown hg (by
    cases e : uh.ownBlock with
    | none => exact .inl rfl
    | some g => exact .inr fun e2 => h.nuh g e2.symm e)
  have hm7 : Mod (fun k => k = b ∨ vx0.ownBlock = some k ∨ vh0.ownBlock = some k) w w7 := h.md.grown hg fun g e hlt => by
    rcases h.fh g e with h1 | h1
    · exact Or.inr (Or.inr h1)
    · omega
  refine ⟨(kb h.box (by decide)).other (a := ⟨b, 1, none⟩) h.nXb _, hA.set 1 v2, (kr h.nx).other (a := ⟨b, 1, none⟩) (hA.apart (kr h.nx) (by decide)) _, hrow.other (a := ⟨b, 1, none⟩) (hA.apart hrow (by decide)) _,
    (kr h.rx).other (a := ⟨b, 1, none⟩) (hA.apart (kr h.rx) (by decide)) _, hrh.other (a := ⟨b, 1, none⟩) (hA.apart hrh (by decide)) _, hm7.setCell (a := ⟨b, 1, none⟩) (fun _ => Or.inl rfl) _, h.fx, fresh_more h.fh h.md.size hf, h.nux, fun g e1 e2 => ?_, h.nXb, h.oX⟩
  rcases hf g e1 with h1 | h1
  · exact h.nuh g h1 e2
  · have := h.rh.lt e2; omega
end
/-- A row, the first l of it moved by n. -/
def sc (r : Mir.R4) (n l : Nat) : List Value := [.int .i64 ((if 0 < l then r.a + n else r.a : Nat) : Int), .int .i64 ((if 1 < l then r.b + n else r.b : Nat) : Int), .int .i64 ((if 2 < l then r.c + n else r.c : Nat) : Int), .int .i64 ((if 3 < l then r.d + n else r.d : Nat) : Int)]
theorem sc_get (r : Mir.R4) (n l : Nat) (hl : l < 4) : (sc r n l)[l]? = some (.int .i64 (r4g r l : Int)) := by
  match l, hl with
  | 0, _ => rfl
  | 1, _ => rfl
  | 2, _ => rfl
  | 3, _ => rfl
theorem sc_set (r : Mir.R4) (n l : Nat) (hl : l < 4) : (sc r n l).set l (.int .i64 ((r4g r l + n : Nat) : Int)) = sc r n (l + 1) := by
  match l, hl with
  | 0, _ => rfl
  | 1, _ => rfl
  | 2, _ => rfl
  | 3, _ => rfl
def shift (n : Nat) (r : Mir.R4) : Mir.R4 := ⟨r.a + n, r.b + n, r.c + n, r.d + n⟩
theorem addA_eq (a b : M2.Auto) : M2.addA a b = ⟨a.nx ++ b.nx.map (shift a.nx.length), a.hit ++ b.hit⟩ := rfl

set_option maxHeartbeats 4000000 in
set_option maxRecDepth 100000 in
theorem addA_any (w : World) (b : Nat) (vx0 vh0 ux uh : Value) (a c : M2.Auto) (hB : Blk w b [vx0, vh0] 142) (hx : Row R4E w vx0 a.nx) (hh : Row BoE w vh0 a.hit) (hux : Row R4E w ux c.nx) (huh : Row BoE w uh c.hit) (hnx : ∀ g, vx0.ownBlock = some g → ux.ownBlock ≠ some g) (hnh : ∀ g, vh0.ownBlock = some g → uh.ownBlock ≠ some g) (hl : c.nx.length = c.hit.length) (hla : a.nx.length = a.hit.length) (hbig : a.nx.length + c.nx.length ≤ 300000) (hsm : ∀ r ∈ c.nx, ∀ l, l < 4 → r4g r l ≤ 300000) :
    Calls Tryz.prog 57 #[.pointer (some ⟨b, 0, none⟩), .agg #[ux, uh]] w fun e w' => e = .returned (.tuple #[]) ∧ ∃ lx lh, AI w b w.heap.size vx0 vh0 ux uh c lx lh (M2.addA a c) w' := by
  rw [addA_eq]
  obtain ⟨xa, xcap, hvx, -, -, -⟩ := hx.any
  obtain ⟨ya, ycap, hvu, hya, -, -⟩ := hux.any
  obtain ⟨za, zcap, hvz, hza, -, -⟩ := huh.any
  rw [← hl] at hvz
  obtain ⟨n, hn⟩ : ∃ n, n = c.nx.length := ⟨_, rfl⟩
  obtain ⟨an, han⟩ : ∃ an, an = a.nx.length := ⟨_, rfl⟩
  rw [← hn] at hvu hvz hbig
  rw [← han] at hvx hbig ⊢
  have HI0 : Hid (∀ o, o = Obj.cells #[ux, uh] 142 → AI w b w.heap.size vx0 vh0 ux uh c vx0 vh0 a (w.alloc o)) := fun o ho => ⟨by subst ho; exact heap_alloc_new w _, hB.alloc o, hx.alloc o, hh.alloc o, hux.alloc o, huh.alloc o, (Mod.refl _ _).alloc o, Fresh.refl _ _, Fresh.refl _ _, hnx, hnh, by have := hB.lt; omega, Nat.le_refl _⟩
  have HVU : Hid (ux = .slice ya n ycap) := hvu
  have HVZ : Hid (uh = .slice za n zcap) := hvz
  have HN : Hid (n = c.nx.length ∧ n = c.hit.length) := ⟨hn, by omega⟩
  have HAN : Hid (an = a.nx.length ∧ an = a.hit.length) := ⟨han, by omega⟩
  have HSM : Hid (∀ r ∈ c.nx, ∀ l, l < 4 → r4g r l ≤ 300000) := hsm
  have c0 := hB.cellA 0 rfl
  rw [hvx] at c0
  have hneb : ¬ b = w.heap.size := by have := hB.lt; omega
  clear hB hx hh hux huh hnx hnh hl hla hsm hn han hvx
  rw [hvu, hvz]
  rw [hvu, hvz] at HI0
  clear hvu hvz
  go_enter Tryz.func57, Tryz.ntmps57
  go_wp2_with fail
  clear c0
  rw [← HVU.out, ← HVZ.out] at HI0
  have HI1 := HI0.out _ rfl
  rw [HVU.out, HVZ.out] at HI1
  clear HI0
  have HI1 : Hid (AI w b w.heap.size vx0 vh0 (.slice ya n ycap) (.slice za n zcap) c vx0 vh0 a (w.alloc (Obj.cells #[.slice ya n ycap, .slice za n zcap] 142))) := HI1
  rw [← HVU.out, ← HVZ.out] at HI1
  go_loopg [16] n (fun gh v16 wr => ∃ (i : Nat) (lx lh : Value), i ≤ n ∧ gh = n - i ∧ v16 = .int .i64 (i : Int) ∧ AI w b w.heap.size vx0 vh0 ux uh c lx lh ⟨a.nx ++ (c.nx.take i).map (shift an), a.hit ++ c.hit.take i⟩ wr)
  case atStart => exact ⟨0, vx0, vh0, by omega, by omega, rfl, by have h := HI1.out; rw [HVU.out, HVZ.out] at h ⊢; simpa using h⟩
  case round =>
    obtain ⟨i, lx, lh, hi, hgk, rfl, hI⟩ := hrel
    have HL1 : Hid ((a.nx ++ (c.nx.take i).map (shift an)).length = an + i) := by
      show (a.nx ++ (c.nx.take i).map (shift an)).length = an + i
      have h1 := HAN.out.1; have h2 := HN.out.1; simp; omega
    have HL2 : Hid ((a.hit ++ c.hit.take i).length = an + i) := by
      show (a.hit ++ c.hit.take i).length = an + i
      have h1 := HAN.out.2; have h2 := HN.out.2; simp; omega
    obtain ⟨pa, pcap, hlx, -, -, -⟩ := hI.nx.any
    obtain ⟨qa, qcap, hlh, -, -, -⟩ := hI.hit.any
    rw [show (M2.Auto.mk (a.nx ++ (c.nx.take i).map (shift an)) (a.hit ++ c.hit.take i)).nx.length = an + i from HL1.out] at hlx
    rw [show (M2.Auto.mk (a.nx ++ (c.nx.take i).map (shift an)) (a.hit ++ c.hit.take i)).hit.length = an + i from HL2.out] at hlh
    have HLX : Hid (lx = .slice pa (an + i) pcap) := hlx
    have HLH : Hid (lh = .slice qa (an + i) qcap) := hlh
    have HI : Hid (AI w b w.heap.size vx0 vh0 ux uh c lx lh ⟨a.nx ++ (c.nx.take i).map (shift an), a.hit ++ c.hit.take i⟩ wr) := hI
    by_cases hlt : i < n
    · obtain ⟨r, hri⟩ : ∃ r, c.nx[i]? = some r := ⟨c.nx[i]'(by have := HN.out.1; omega), List.getElem?_eq_getElem _⟩
      obtain ⟨hb, hbi⟩ : ∃ hb, c.hit[i]? = some hb := ⟨c.hit[i]'(by have := HN.out.2; omega), List.getElem?_eq_getElem _⟩
      obtain ⟨gy, rfl⟩ : ∃ gy, ya = some ⟨gy, 0, none⟩ := by
        rcases hya with rfl | ⟨gy, rfl, _⟩
        · rcases hI.rx.2 with ⟨_, h2⟩ | ⟨g1, cap', cur, h, _⟩
          · have := HN.out.1; omega
          · rw [HVU.out] at h; cases h
        · exact ⟨gy, rfl⟩
      obtain ⟨gz, rfl⟩ : ∃ gz, za = some ⟨gz, 0, none⟩ := by
        rcases hza with rfl | ⟨gz, rfl, _⟩
        · rcases hI.rh.2 with ⟨_, h2⟩ | ⟨g1, cap', cur, h, _⟩
          · have := HN.out.2; omega
          · rw [HVZ.out] at h; cases h
        · exact ⟨gz, rfl⟩
      have hrx := hI.rx
      rw [HVU.out] at hrx
      have q0 : wr.cell? ⟨gy, i * 4, none⟩ = some (.int .i64 (r.a : Int)) := hrx.cell i 0 hri rfl
      have q1 : wr.cell? ⟨gy, i * 4 + 1, none⟩ = some (.int .i64 (r.b : Int)) := hrx.cell i 1 hri rfl
      have q2 : wr.cell? ⟨gy, i * 4 + 2, none⟩ = some (.int .i64 (r.c : Int)) := hrx.cell i 2 hri rfl
      have q3 : wr.cell? ⟨gy, i * 4 + 3, none⟩ = some (.int .i64 (r.d : Int)) := hrx.cell i 3 hri rfl
      have hilt : (i : Int) < (n : Int) := by omega
      have hQ0 : w.heap.size ≤ wr.heap.size := hI.md.size
      have hxQ : lx.ownBlock ≠ some wr.heap.size := fun e => by have := hI.nx.lt e; omega
      have huQ : ux.ownBlock ≠ some wr.heap.size := fun e => by have := hI.rx.lt e; omega
      obtain ⟨W2, hW2⟩ : ∃ W2, wr.alloc (Obj.cells #[.int .i64 (r.a : Int), .int .i64 (r.b : Int), .int .i64 (r.c : Int), .int .i64 (r.d : Int)] 106) = W2 := ⟨_, rfl⟩
      have hm2 : Mod No wr W2 := by rw [← hW2]; exact (Mod.refl _ _).alloc _
      have HI2 : Hid (AI w b w.heap.size vx0 vh0 ux uh c lx lh ⟨a.nx ++ (c.nx.take i).map (shift an), a.hit ++ c.hit.take i⟩ W2 ∧ Blk W2 wr.heap.size (sc r an 0) 106) := ⟨hI.no hm2, by rw [← hW2]; exact heap_alloc_new wr _⟩
      have HSR : Hid (∀ l, l < 4 → r4g r l ≤ 300000) := HSM.out r (List.mem_of_getElem? hri)
      have HRI : Hid (c.nx[i]? = some r ∧ c.hit[i]? = some hb) := ⟨hri, hbi⟩
      clear hI hrx hlx hlh hri hbi hm2 HI
      go_wp2_with fail
      clear hW2 q0 q1 q2 q3
      generalize wr.heap.size = Q at HI2 hQ0 hxQ huQ ⊢
      go_loopg [21] 4 (fun h v21 wx => ∃ l : Nat, v21 = .int .i64 (l : Int) ∧ l ≤ 4 ∧ h = 4 - l ∧ AI w b w.heap.size vx0 vh0 ux uh c lx lh ⟨a.nx ++ (c.nx.take i).map (shift an), a.hit ++ c.hit.take i⟩ wx ∧ Blk wx Q (sc r an l) 106)
      case atStart => exact ⟨0, rfl, by omega, rfl, HI2.out.1, HI2.out.2⟩
      case round =>
        obtain ⟨l, rfl, hl4, hh4, hI, hQ⟩ := hrel
        have HI : Hid (AI w b w.heap.size vx0 vh0 ux uh c lx lh ⟨a.nx ++ (c.nx.take i).map (shift an), a.hit ++ c.hit.take i⟩ wr) := hI
        have HQ : Hid (Blk wr Q (sc r an l) 106) := hQ
        by_cases hl4' : l < 4
        · have hli : (l : Int) < 4 := by omega
          have cq := hQ.cell l (sc_get r an l hl4')
          have fq := hQ.free l
          have hsr := HSR.out l hl4'
          have HS : Hid ((sc r an l).set l (.int .i64 ((r4g r l + an : Nat) : Int)) = sc r an (l + 1)) := sc_set r an l hl4'
          generalize r4g r l = T at cq hsr HS
          clear hI hQ
          go_wp2
          go_roundg (4 - (l + 1))
          case measure => omega
          case rel => exact ⟨l + 1, by go_num, by omega, rfl, HI.out.put HQ.out hQ0 hxQ huQ l _, by rw [← HS.out, show ((T + an : Nat) : Int) = (T : Int) + (an : Int) by omega]; exact HQ.out.set l _⟩
        · obtain rfl : l = 4 := by omega
          obtain ⟨i0, hinf, hz0, hz1, hz2⟩ := info_parts Tryz.info106
          have d0 := hI.aut.cell 0 rfl
          rw [HLX.out] at d0
          obtain ⟨A1, hA1⟩ : ∃ x, x = r.a + an := ⟨_, rfl⟩
          obtain ⟨A2, hA2⟩ : ∃ x, x = r.b + an := ⟨_, rfl⟩
          obtain ⟨A3, hA3⟩ : ∃ x, x = r.c + an := ⟨_, rfl⟩
          obtain ⟨A4, hA4⟩ : ∃ x, x = r.d + an := ⟨_, rfl⟩
          have HSH : Hid (shift an r = ⟨A1, A2, A3, A4⟩) := by show shift an r = _; rw [hA1, hA2, hA3, hA4]; rfl
          have hQ : Blk wr Q [.int .i64 (A1 : Int), .int .i64 (A2 : Int), .int .i64 (A3 : Int), .int .i64 (A4 : Int)] 106 := by rw [hA1, hA2, hA3, hA4]; exact HQ.out
          have q0 := hQ.cell 0 rfl
          have q1 := hQ.cell 1 rfl
          have q2 := hQ.cell 2 rfl
          have q3 := hQ.cell 3 rfl
          obtain ⟨ln, hln⟩ : ∃ ln, ln = an + i := ⟨_, rfl⟩
          rw [← hln] at HL1 HL2 HLX HLH d0
          have hown : wr.ownsRow 0 106 4 (.slice pa ln pcap) ln ((a.nx ++ (c.nx.take i).map (shift an)).flatMap R4E.f) := by have := hI.nx; unfold Row at this; rw [HLX.out, HL1.out] at this; exact this
          have hAlt := hI.aut.lt
          have hln3 : ln ≤ 300000 := by omega
          have hAx : some b ≠ lx.ownBlock := fun e => hI.aut.apart hI.nx (by decide) e.symm
          rw [HLX.out] at hAx
          have K0 := hI.aut.cellA 0 rfl
          rw [HLX.out] at K0
          have F0 := hI.aut.freeA 0
          have HTK : Hid (a.nx ++ (c.nx.take i).map (shift an) ++ [⟨A1, A2, A3, A4⟩] = a.nx ++ (c.nx.take (i + 1)).map (shift an) ∧ a.hit ++ c.hit.take i ++ [hb] = a.hit ++ c.hit.take (i + 1)) := by
            refine ⟨?_, ?_⟩
            · rw [List.take_add_one, HRI.out.1, ← HSH.out]; simp
            · rw [List.take_add_one, HRI.out.2]; simp
          clear hI hQ hA1 hA2 hA3 hA4 hln
          go_wp2_with fail
          go_region_law (refine step_append_lies _ (by rfl) _ _ _ (by rfl) 0 106 i0 _ 4 32 Tryz.underlying84 hinf hz0 hz1 hz2 rfl (by omega) (.slice pa ln pcap) ln ((a.nx ++ (c.nx.take i).map (shift an)).flatMap R4E.f) (by rfl) ((hown.alloc _).drew) ⟨wr.heap.size, 0, none⟩ 1 1 [.int .i64 (A1 : Int), .int .i64 (A2 : Int), .int .i64 (A3 : Int), .int .i64 (A4 : Int)] (by rfl) (by rfl) (World.news_of_block (cs := #[.int .i64 (A1 : Int), .int .i64 (A2 : Int), .int .i64 (A3 : Int), .int .i64 (A4 : Int)]) (t := 106) (fr := (0, 0)) (heap_alloc_new wr _)) (by intro u hu; simp at hu; rcases hu with rfl | rfl | rfl | rfl <;> rfl) (by omega) (by unfold maxLen; omega) (by omega) (by simp) (wr.heap.size + 1) (by simp) ?_; intro gg cap2 w7 hown7 hgrow hat hltt; have s0 := (hgrow.cell_far ⟨b, 0, none⟩ (by simp; omega) hAx).trans (K0 _); have s1 := (hgrow.frozen_far ⟨b, 0, none⟩ (by simp; omega) hAx).trans (F0 _))
          all_goals
            have hf7 : Fresh (wr.alloc (Obj.cells #[.int .i64 (A1 : Int), .int .i64 (A2 : Int), .int .i64 (A3 : Int), .int .i64 (A4 : Int)] 106)).drew lx (.slice (some ⟨gg, 0, none⟩) (ln + 1) cap2) := by
              intro g1 hg1
              cases hg1
              rcases hat with h | h
              · exact Or.inl (by rw [HLX.out]; exact h)
              · exact Or.inr (by show (wr.alloc (Obj.cells #[.int .i64 (A1 : Int), .int .i64 (A2 : Int), .int .i64 (A3 : Int), .int .i64 (A4 : Int)] 106)).heap.size ≤ gg; simp; omega)
            have hr7 : Row R4E w7 (.slice (some ⟨gg, 0, none⟩) (ln + 1) cap2) (a.nx ++ (c.nx.take (i + 1)).map (shift an)) := by
              rw [← HTK.out.1]
              refine Row.snoc ?_
              rw [HL1.out]
              exact hown7
            have HI8 := (HI.out.no (((Mod.refl _ _).alloc (Obj.cells #[.int .i64 (A1 : Int), .int .i64 (A2 : Int), .int .i64 (A3 : Int), .int .i64 (A4 : Int)] 106)).drew)).moreX (by rw [HLX.out]; exact hgrow) hr7 hf7
            obtain ⟨v8, hv8⟩ : ∃ v8, v8 = Value.slice (some ⟨gg, 0, none⟩) (ln + 1) cap2 := ⟨_, rfl⟩
            generalize w7.setCell ⟨b, 0, none⟩ (.slice (some ⟨gg, 0, none⟩) (ln + 1) cap2) = w8 at HI8 ⊢
            rw [← hv8] at HI8
            have HI8 : Hid (AI w b w.heap.size vx0 vh0 ux uh c v8 lh ⟨a.nx ++ (c.nx.take (i + 1)).map (shift an), a.hit ++ c.hit.take i⟩ w8) := HI8
            clear hf7 hr7 hown7 hgrow hat hltt s0 s1 hv8
            clear hown d0 q0 q1 q2 q3 hinf hz0 hz1 hz2 hAx K0 F0
            obtain ⟨j0, hinf, hz0, hz1, hz2⟩ := info_parts Tryz.info4
            have hh8 := HI8.out.rh
            rw [HVZ.out] at hh8
            have ch := BoE.cell hh8 HRI.out.2
            have x1 := HI8.out.box.cell 1 rfl
            rw [HVZ.out] at x1
            have d1 := HI8.out.aut.cell 1 rfl
            rw [HLH.out] at d1
            have hown8 : w8.ownsRow 0 4 1 (.slice qa ln qcap) ln ((a.hit ++ c.hit.take i).flatMap BoE.f) := by have := HI8.out.hit; unfold Row at this; rw [HLH.out] at this; rw [show (M2.Auto.mk (a.nx ++ (c.nx.take (i + 1)).map (shift an)) (a.hit ++ c.hit.take i)).hit = a.hit ++ c.hit.take i from rfl, HL2.out] at this; exact this
            have hAh : some b ≠ lh.ownBlock := fun e => HI8.out.aut.apart HI8.out.hit (by decide) e.symm
            rw [HLH.out] at hAh
            have F1 := HI8.out.aut.freeA 1
            have K1 := HI8.out.aut.cellA 1 rfl
            rw [HLH.out] at K1
            have hA8 := HI8.out.aut.lt
            have hilt2 : (i : Int) < (n : Int) := by omega
            clear hh8
            go_wp2_with fail
            go_region_law (refine step_append_lies _ (by rfl) _ _ _ (by rfl) 0 4 j0 _ 1 1 Tryz.underlying122 hinf hz0 hz1 hz2 rfl (by omega) (.slice qa ln qcap) ln ((a.hit ++ c.hit.take i).flatMap BoE.f) (by rfl) ((hown8.alloc _).drew) ⟨w8.heap.size, 0, none⟩ 1 1 [.bool hb] (by rfl) (by rfl) (World.news_of_block (cs := #[.bool hb]) (t := 4) (fr := (0, 0)) (heap_alloc_new w8 _)) (by intro u hu; simp at hu; rw [hu]; rfl) (by omega) (by unfold maxLen; omega) (by omega) (by simp) (w8.heap.size + 1) (by simp) ?_; intro g2 cap3 w10 hown10 hgrow10 hat10 hltt10; have s0 := (hgrow10.cell_far ⟨b, 1, none⟩ (by simp; omega) hAh).trans (K1 _); have s1 := (hgrow10.frozen_far ⟨b, 1, none⟩ (by simp; omega) hAh).trans (F1 _))
            all_goals
              have hf10 : Fresh (w8.alloc (Obj.cells #[.bool hb] 4)).drew lh (.slice (some ⟨g2, 0, none⟩) (ln + 1) cap3) := by
                intro g1 hg1
                cases hg1
                rcases hat10 with h | h
                · exact Or.inl (by rw [HLH.out]; exact h)
                · exact Or.inr (by show (w8.alloc (Obj.cells #[.bool hb] 4)).heap.size ≤ g2; simp; omega)
              have hr10 : Row BoE w10 (.slice (some ⟨g2, 0, none⟩) (ln + 1) cap3) (a.hit ++ c.hit.take (i + 1)) := by
                rw [← HTK.out.2]
                refine Row.snoc ?_
                rw [HL2.out]
                exact hown10
              have HI11 : Hid (AI w b w.heap.size vx0 vh0 ux uh c v8 (.slice (some ⟨g2, 0, none⟩) (ln + 1) cap3) ⟨a.nx ++ (c.nx.take (i + 1)).map (shift an), a.hit ++ c.hit.take (i + 1)⟩ (w10.setCell ⟨b, 1, none⟩ (.slice (some ⟨g2, 0, none⟩) (ln + 1) cap3))) := (HI8.out.no (((Mod.refl _ _).alloc (Obj.cells #[.bool hb] 4)).drew)).moreH (by rw [HLH.out]; exact hgrow10) hr10 hf10
              clear hf10 hr10 K1 F1 hown8 hown10 hgrow10 hat10 hltt10 s0 s1 x1 d1 hinf hz0 hz1 hz2 ch
              go_wp2
              go_roundg (n - (i + 1))
              case measure => omega
              case rel => exact ⟨i + 1, v8, _, by omega, rfl, by go_num, HI11.out⟩
    · obtain rfl : i = n := by omega
      have HT : Hid (c.nx.take i = c.nx ∧ c.hit.take i = c.hit) := ⟨List.take_of_length_le (by have := HN.out.1; omega), List.take_of_length_le (by have := HN.out.2; omega)⟩
      clear hI hlx hlh
      go_wp2
      go_end0
      refine ⟨rfl, lx, lh, ?_⟩
      have h := HI.out
      rw [HT.out.1, HT.out.2] at h
      rw [HVU.out, HVZ.out] at h
      exact h
end Go.Proofs.YtmbapmbpnnaanabGreatDoor
