import Derived.Test.YtmbapmbpnnaanabGreatDoorKM
namespace Go.Proofs.YtmbapmbpnnaanabGreatDoor
open Go.RowKit
attribute [local go_sem ↓] Go.wp_at_zero Go.wp_at_succ
attribute [local go_sem] pieceV

/-- 'readRule', with the whole context by name. -/
def finM (l fr tt : List UInt8) (m : Mir.Piece) (p : Mir.PS) : Option (Option Mir.Rule) := if p.bad || decide (p.k < l.length) then some none else some (some ⟨fr, tt, p.ps, m⟩)
def ruleM' (l : List UInt8) : Option (Option Mir.Rule) :=
  let r := Mir.runM Mir.isL l ⟨0, false, []⟩
  let t := Mir.runM Mir.isS l (Mir.takeM l 62 r.2)
  if r.1.isEmpty || decide (4 < r.1.length) || decide (4 < t.1.length) then some none else
  match Mir.wordM r.1 ⟨true, 0, 0⟩ t.2.ps with
  | none => none
  | some (m, ps) =>
    if Mir.sees l 47 { t.2 with ps := ps } then
      match whoM l { t.2 with k := t.2.k + 1, ps := ps } with
      | none => none
      | some (c, p4) => finM l r.1 t.1 (Mir.joinM p4.ps m c).1 { p4 with ps := (Mir.joinM p4.ps m c).2 }
    else finM l r.1 t.1 m { t.2 with ps := ps }
theorem take_ps (l : List UInt8) (c : UInt8) (p : Mir.PS) : (Mir.takeM l c p).ps = p.ps := by unfold Mir.takeM; split <;> rfl
theorem ruleM_eq (l : List UInt8) : Mir.ruleM l = ruleM' l := by
  unfold Mir.ruleM ruleM'
  dsimp only
  have e : (Mir.runM Mir.isS l (Mir.takeM l 62 (Mir.runM Mir.isL l ⟨0, false, []⟩).2)).2.ps = [] := by
    show (Mir.takeM l 62 (Mir.runM Mir.isL l ⟨0, false, []⟩).2).ps = []
    rw [take_ps]; rfl
  rw [e]
  clear e
  generalize Mir.runM Mir.isL l ⟨0, false, []⟩ = r
  generalize Mir.runM Mir.isS l (Mir.takeM l 62 r.2) = t
  by_cases hc : (r.1.isEmpty || decide (4 < r.1.length) || decide (4 < t.1.length)) = true
  · rw [if_pos hc, if_pos hc]
  · rw [if_neg hc, if_neg hc]
    cases hw : Mir.wordM r.1 ⟨true, 0, 0⟩ [] with
    | none => rfl
    | some x =>
      obtain ⟨m, ps⟩ := x
      dsimp only
      by_cases h47 : Mir.sees l 47 { t.2 with ps := ps } = true
      · rw [if_pos h47, if_pos h47]
        unfold whoM
        dsimp only
        by_cases h14 : 14 < l.length - (t.2.k + 1)
        · rw [if_pos h14, if_pos h14]; rfl
        · rw [if_neg h14, if_neg h14]
          cases Mir.ctxM l Mir.fuelP 0 { t.2 with k := t.2.k + 1, ps := ps } <;> rfl
      · rw [if_neg h47, if_neg h47]; rfl

def ruleV (r : Mir.Rule) (vp : Value) : Value := .agg #[.string ⟨r.fr.toArray⟩, .string ⟨r.tt.toArray⟩, vp, .bool r.wh.e, .int .u32 (r.wh.f : Int), .int .u32 (r.wh.l : Int)]
def noRule : Value := .agg #[.string ⟨#[]⟩, .string ⟨#[]⟩, .slice none 0 0, .bool false, .int .u32 0, .int .u32 0]
/-- A rule that lies well. -/
structure RuOk (w : World) (base : Nat) (r : Mir.Rule) (vp : Value) : Prop where
  row : Row PlE w vp r.ps
  ps : PsOk r.ps
  wh : POk r.wh
  new : ∀ g, vp.ownBlock = some g → base ≤ g
  fr : r.fr.length ≤ 4

abbrev zero6 : List Value := [.string ⟨#[]⟩, .string ⟨#[]⟩, .slice none 0 0, .bool false, .int .u32 0, .int .u32 0]
structure RdI (s : ByteArray) (W1 : World) (b R : Nat) (vk : Value) (pk : Mir.PS) (wr : World) : Prop where
  pst : PSt wr b s vk pk
  fr : Fresh W1 (.slice none 0 0) vk
  md : Mod (Pt b (.slice none 0 0)) W1 wr
  res : Blk wr R zero6 138
  nR : vk.ownBlock ≠ some R
section
variable {s : ByteArray} {W1 wr w3 : World} {b R : Nat} {vk v3 : Value} {pk q : Mir.PS}
theorem RdI.drewN (h : RdI s W1 b R vk pk wr) (n : Nat) : RdI s W1 b R vk pk (wr.drewN n) := ⟨h.pst.drewN n, h.fr, h.md.drewN n, h.res.drewN n, h.nR⟩
theorem RdI.alloc (h : RdI s W1 b R vk pk wr) (o : Obj) : RdI s W1 b R vk pk (wr.alloc o) := ⟨h.pst.alloc o, h.fr, h.md.alloc o, h.res.alloc o, h.nR⟩
theorem RdI.step (h : RdI s W1 b R vk pk wr) (hbR : b ≠ R) (h3 : PSt w3 b s v3 q) (f3 : Fresh wr vk v3) (m3 : Mod (Pt b vk) wr w3) : RdI s W1 b R v3 q w3 :=
  ⟨h3, h.fr.trans f3 h.md.size, h.md.trans' m3 (Pt.fresh h.fr), keepL h.res (fun e => hbR e.symm) h.nR m3, f3.old h.nR h.res.lt⟩
theorem RdI.go (h : RdI s W1 b R vk pk wr) (hbR : b ≠ R) (h3 : PSt w3 b s vk q) (m3 : Mod (Pt b vk) wr w3) : RdI s W1 b R vk q w3 := h.step hbR h3 (Fresh.refl _ _) m3
end

/-- What 'readRule' gives. -/
def RulePost (r : Option Mir.Rule) (w : World) (e : Ending) (w' : World) : Prop := Mod No w w' ∧ (match r with | none => e = .returned (.tuple #[noRule, .bool false]) | some ru => ∃ vp, e = .returned (.tuple #[ruleV ru vp, .bool true]) ∧ RuOk w' w.heap.size ru vp)
theorem RulePost.no {r : Option Mir.Rule} {w w' : World} {e : Ending} (hr : r = none) (hm : Mod No w w') (he : e = .returned (.tuple #[noRule, .bool false])) : RulePost r w e w' := by subst hr; exact ⟨hm, he⟩
theorem RulePost.yes {r : Option Mir.Rule} {ru : Mir.Rule} {w w' : World} {e : Ending} {vp : Value} (hr : r = some ru) (hm : Mod No w w') (he : e = .returned (.tuple #[ruleV ru vp, .bool true])) (ho : RuOk w' w.heap.size ru vp) : RulePost r w e w' := by subst hr; exact ⟨hm, vp, he, ho⟩

theorem Mod.put6 {S : Nat → Prop} {w w1 : World} {L : Nat} (h : Mod S w w1) (hL : w.heap.size ≤ L) (b0 b1 b2 b3 b4 b5 : Value) : Mod S w ((((((w1.setCell ⟨L, 0, none⟩ b0).setCell ⟨L, 1, none⟩ b1).setCell ⟨L, 2, none⟩ b2).setCell ⟨L, 3, none⟩ b3).setCell ⟨L, 4, none⟩ b4).setCell ⟨L, 5, none⟩ b5) :=
  (((h.put3 hL b0 b1 b2).setCell (a := ⟨L, 3, none⟩) (fun h => absurd h (by simp; omega)) b3).setCell (a := ⟨L, 4, none⟩) (fun h => absurd h (by simp; omega)) b4).setCell (a := ⟨L, 5, none⟩) (fun h => absurd h (by simp; omega)) b5

theorem new6 (w1 : World) (s : ByteArray) (o : Obj) (ho : o = Obj.cells #[.string s, .int .i64 0, .bool false, .slice none 0 0, .bool false, .int .u32 0, .int .u32 0] 189) : PSt (w1.alloc o) w1.heap.size s (.slice none 0 0) ⟨0, false, []⟩ := by
  subst ho
  exact ⟨heap_alloc_new w1 _, Row.nil _ _, by simp [Value.ownBlock], ⟨by simp, fun q hq => by cases hq⟩, Nat.zero_le _⟩

set_option maxHeartbeats 4000000 in
set_option maxRecDepth 100000 in
theorem readRule_any (s : ByteArray) (w : World) (hs : s.size ≤ 1048576) {r : Option Mir.Rule} (hM : Mir.ruleM s.data.toList = some r) :
    Calls Tryz.prog 55 #[.string s] w fun e w' => RulePost r w e w' := by
  rw [ruleM_eq] at hM
  unfold ruleM' at hM
  dsimp only at hM
  have H0 : Hid (∀ o, Calls Tryz.prog 69 #[.string s] (w.alloc o) fun e w' => e = .returned (.agg #[.string s, .int .i64 0, .bool false]) ∧ Mod No (w.alloc o) w') := fun o => new_any s _
  generalize e1 : Mir.runM Mir.isL s.data.toList ⟨0, false, []⟩ = r1 at hM
  have H1 : Hid (∀ wx b vp, PSt wx b s vp ⟨0, false, []⟩ → (⟨r1.1.toArray⟩ : ByteArray).size ≤ 1048576 ∧ Calls Tryz.prog 80 #[.pointer (some ⟨b, 0, none⟩), .int .i64 0] wx fun e w' => e = .returned (.string ⟨r1.1.toArray⟩) ∧ PSt w' b s vp r1.2 ∧ Mod (Pt b vp) wx w') := fun wx b vp hx => by
    have := lrun hx hs
    rw [e1] at this; exact ⟨by rw [← e1]; exact run_size _ hx.ks hs, this⟩
  clear e1
  obtain ⟨fr, q1⟩ := r1
  dsimp only at hM H1
  generalize e2 : Mir.takeM s.data.toList 62 q1 = q2 at hM
  have H2 : Hid (∀ wx b vp, PSt wx b s vp q1 → Calls Tryz.prog 81 #[.pointer (some ⟨b, 0, none⟩), .int .u8 62] wx fun e w' => e = .returned (.tuple #[]) ∧ PSt w' b s vp q2 ∧ Mod (Pt b vp) wx w') := fun wx b vp hx => by
    have := ltake hx 62 hs
    rw [e2] at this; exact this
  clear e2
  generalize e3 : Mir.runM Mir.isS s.data.toList q2 = r3 at hM
  have H3 : Hid (∀ wx b vp, PSt wx b s vp q2 → (⟨r3.1.toArray⟩ : ByteArray).size ≤ 1048576 ∧ Calls Tryz.prog 80 #[.pointer (some ⟨b, 0, none⟩), .int .i64 1] wx fun e w' => e = .returned (.string ⟨r3.1.toArray⟩) ∧ PSt w' b s vp r3.2 ∧ Mod (Pt b vp) wx w') := fun wx b vp hx => by
    have := lsaid hx hs
    rw [e3] at this; exact ⟨by rw [← e3]; exact run_size _ hx.ks hs, this⟩
  clear e3
  obtain ⟨tt, q3⟩ := r3
  dsimp only at hM H3
  have hem := empty_arr fr
  have hl1 : (⟨fr.toArray⟩ : ByteArray).size = fr.length := by show fr.toArray.size = _; simp
  have hl2 : (⟨tt.toArray⟩ : ByteArray).size = tt.length := by show tt.toArray.size = _; simp
  have HRV : Hid (∀ ps wh vp, ruleV ⟨fr, tt, ps, wh⟩ vp = .agg #[.string ⟨fr.toArray⟩, .string ⟨tt.toArray⟩, vp, .bool wh.e, .int .u32 (wh.f : Int), .int .u32 (wh.l : Int)]) := fun _ _ _ => rfl
  have HSW : Hid (∀ wx b vp p x ps, (⟨fr.toArray⟩ : ByteArray).size ≤ 1048576 → PSt wx b s vp p → Mir.wordM fr ⟨true, 0, 0⟩ p.ps = some (x, ps) → Calls Tryz.prog 82 #[.pointer (some ⟨b, 0, none⟩), .string ⟨fr.toArray⟩] wx fun e w' => Gives wx b s vp x { p with ps := ps } e w') := fun wx b vp p x ps hsz hx hm => word_any ⟨fr.toArray⟩ hsz hx hm
  generalize (⟨fr.toArray⟩ : ByteArray) = S1 at hem hl1 H1 HRV HSW
  generalize (⟨tt.toArray⟩ : ByteArray) = S2 at hl2 H3 HRV
  have HL1 : Hid (S1.size = fr.length) := hl1
  have HL2 : Hid (S2.size = tt.length) := hl2
  have HM : Hid _ := hM
  clear hl1 hl2 hM
  go_enter Tryz.func55, Tryz.ntmps55
  go_wp2_with fail
  refine (H0.out _).mono ?_
  rintro e w1 ⟨rfl, m1⟩
  clear H0
  have hR1 : Blk w1 w.heap.size zero6 138 := Blk.mod (heap_alloc_new w _) m1 (fun x => x)
  have hm1 : Mod No w w1 := ((Mod.refl _ _).alloc _).no m1
  have hbsz : w.heap.size < w1.heap.size := by have := m1.size; simp at this; omega
  have hI : Hid (∀ o, o = Obj.cells #[.string s, .int .i64 0, .bool false, .slice none 0 0, .bool false, .int .u32 0, .int .u32 0] 189 → RdI s (w1.alloc o) w1.heap.size w.heap.size (.slice none 0 0) ⟨0, false, []⟩ (w1.alloc o)) := fun o ho => ⟨new6 w1 s o ho, Fresh.refl _ _, Mod.refl _ _, hR1.alloc _, by simp [Value.ownBlock]⟩
  have HM1 : Hid (Mod No w w1) := hm1
  clear hR1 hm1 m1
  go_wp2_with fail
  have hI0 := hI.out _ rfl
  have HW1 : Hid (Mod No w (w1.alloc (Obj.cells #[.string s, .int .i64 0, .bool false, .slice none 0 0, .bool false, .int .u32 0, .int .u32 0] 189))) := HM1.out.alloc _
  generalize w1.alloc (Obj.cells #[.string s, .int .i64 0, .bool false, .slice none 0 0, .bool false, .int .u32 0, .int .u32 0] 189) = W1 at hI0 HW1 ⊢
  clear hI HM1
  generalize w1.heap.size = b at hI0 hbsz ⊢
  have hbR : b ≠ w.heap.size := by omega
  have HSUB : Hid (∀ k, k < w.heap.size → Pt b (.slice none 0 0) k → No k) := fun k hk h => by
    rcases h with h | h
    · omega
    · cases h
  refine ((H1.out _ _ _ hI0.pst).2).mono ?_
  rintro e w2 ⟨rfl, h2, m2⟩
  have hS1 := (H1.out _ _ _ hI0.pst).1
  have hI2 := hI0.go hbR h2 m2
  clear H1 h2 m2 hI0
  go_wp2_with fail
  refine (H2.out _ _ _ hI2.pst).mono ?_
  rintro e w3 ⟨rfl, h3, m3⟩
  have hI3 := hI2.go hbR h3 m3
  clear H2 h3 m3 hI2
  go_wp2_with fail
  have hS2 := (H3.out _ _ _ hI3.pst).1
  refine ((H3.out _ _ _ hI3.pst).2).mono ?_
  rintro e w4 ⟨rfl, h4, m4⟩
  have hI4 := hI3.go hbR h4 m4
  clear H3 h4 m4 hI3
  by_cases c1 : fr.isEmpty = true
  · have HRN : Hid (r = none) := by
      have h := HM.out
      rw [c1, Bool.true_or, Bool.true_or, if_pos rfl] at h
      exact (Option.some.inj h).symm
    rw [c1] at hem
    have z0 := hI4.res.cell 0 rfl
    have z1 := hI4.res.cell 1 rfl
    have z2 := hI4.res.cell 2 rfl
    have z3 := hI4.res.cell 3 rfl
    have z4 := hI4.res.cell 4 rfl
    have z5 := hI4.res.cell 5 rfl
    have fz0 := hI4.res.free 0
    have fz1 := hI4.res.free 1
    have fz2 := hI4.res.free 2
    have fz3 := hI4.res.free 3
    have fz4 := hI4.res.free 4
    have fz5 := hI4.res.free 5
    have HMD : Hid (Mod No w w4) := HW1.out.trans' hI4.md HSUB.out
    clear hI4
    go_wp2
    exact bodyPost_ret (v := .tuple #[noRule, .bool false]) (by simp [results, Tryz.results55, go_sem, noRule, z0, z1, z2, z3, z4, z5]) rfl (RulePost.no HRN.out (HMD.out.put6 (Nat.le_refl _) _ _ _ _ _ _) rfl)
  · have c1f : fr.isEmpty = false := by simpa using c1
    rw [c1f] at hem
    by_cases c2 : 4 < fr.length
    · have HRN : Hid (r = none) := by
        have h := HM.out
        rw [decide_eq_true c2, Bool.or_true, Bool.true_or, if_pos rfl] at h
        exact (Option.some.inj h).symm
      have c2i : (4 : Int) < (S1.size : Int) := by have := HL1.out; omega
      have z0 := hI4.res.cell 0 rfl
      have z1 := hI4.res.cell 1 rfl
      have z2 := hI4.res.cell 2 rfl
      have z3 := hI4.res.cell 3 rfl
      have z4 := hI4.res.cell 4 rfl
      have z5 := hI4.res.cell 5 rfl
      have fz0 := hI4.res.free 0
      have fz1 := hI4.res.free 1
      have fz2 := hI4.res.free 2
      have fz3 := hI4.res.free 3
      have fz4 := hI4.res.free 4
      have fz5 := hI4.res.free 5
      have HMD : Hid (Mod No w w4) := HW1.out.trans' hI4.md HSUB.out
      clear hI4
      go_wp2
      exact bodyPost_ret (v := .tuple #[noRule, .bool false]) (by simp [results, Tryz.results55, go_sem, noRule, z0, z1, z2, z3, z4, z5]) rfl (RulePost.no HRN.out (HMD.out.put6 (Nat.le_refl _) _ _ _ _ _ _) rfl)
    · have c2i : ¬ (4 : Int) < (S1.size : Int) := by have := HL1.out; omega
      by_cases c3 : 4 < tt.length
      · have HRN : Hid (r = none) := by
          have h := HM.out
          rw [decide_eq_true c3, Bool.or_true, if_pos rfl] at h
          exact (Option.some.inj h).symm
        have c3i : (4 : Int) < (S2.size : Int) := by have := HL2.out; omega
        have z0 := hI4.res.cell 0 rfl
        have z1 := hI4.res.cell 1 rfl
        have z2 := hI4.res.cell 2 rfl
        have z3 := hI4.res.cell 3 rfl
        have z4 := hI4.res.cell 4 rfl
        have z5 := hI4.res.cell 5 rfl
        have fz0 := hI4.res.free 0
        have fz1 := hI4.res.free 1
        have fz2 := hI4.res.free 2
        have fz3 := hI4.res.free 3
        have fz4 := hI4.res.free 4
        have fz5 := hI4.res.free 5
        have HMD : Hid (Mod No w w4) := HW1.out.trans' hI4.md HSUB.out
        clear hI4
        go_wp2
        exact bodyPost_ret (v := .tuple #[noRule, .bool false]) (by simp [results, Tryz.results55, go_sem, noRule, z0, z1, z2, z3, z4, z5]) rfl (RulePost.no HRN.out (HMD.out.put6 (Nat.le_refl _) _ _ _ _ _ _) rfl)
      · have c3i : ¬ (4 : Int) < (S2.size : Int) := by have := HL2.out; omega
        have hM := HM.out
        rw [c1f, decide_eq_false c2, decide_eq_false c3, if_neg (by simp)] at hM
        have HFR : Hid (fr.length ≤ 4) := by show fr.length ≤ 4; omega
        clear HM c1 c1f c2 c3
        cases hw : Mir.wordM fr ⟨true, 0, 0⟩ q3.ps with
        | none => rw [hw] at hM; cases hM
        | some x =>
          obtain ⟨m, ps⟩ := x
          rw [hw] at hM
          dsimp only at hM
          have HWD : Hid (∀ wx vp, PSt wx b s vp q3 → Calls Tryz.prog 82 #[.pointer (some ⟨b, 0, none⟩), .string S1] wx fun e w' => Gives wx b s vp m { q3 with ps := ps } e w') := fun wx vp hx => HSW.out wx b vp q3 m ps hS1 hx hw
          have HM : Hid _ := hM
          clear HSW hM hw
          have HI4 : Hid (RdI s W1 b w.heap.size (.slice none 0 0) q3 w4) := hI4
          clear hI4
          go_wp2_with fail
          refine (HWD.out _ _ HI4.out.pst).mono ?_
          rintro e w5 ⟨rfl, hm, v5, h5, f5, m5⟩
          have hI5 := HI4.out.step hbR h5 f5 m5
          clear HWD HI4 h5 f5 m5
          have hRL : w.heap.size < w5.heap.size := hI5.res.lt
          have hbL : b < w5.heap.size := hI5.pst.lt
          have hvL : v5.ownBlock ≠ some w5.heap.size := fun e => by have := hI5.pst.own e; omega
          have hWL : W1.heap.size ≤ w5.heap.size := hI5.md.size
          have hI6 : Hid (∀ o, o = Obj.cells #[.bool m.e, .int .u32 (m.f : Int), .int .u32 (m.l : Int)] 134 → RdI s W1 b w.heap.size v5 { q3 with ps := ps } (w5.alloc o) ∧ Blk (w5.alloc o) w5.heap.size (pcells m) 134) := fun o ho => ⟨hI5.alloc o, by subst ho; exact heap_alloc_new w5 _⟩
          clear hI5
          go_wp2_with fail
          have hI6 := hI6.out _ rfl
          generalize w5.alloc (Obj.cells #[.bool m.e, .int .u32 (m.f : Int), .int .u32 (m.l : Int)] 134) = w6 at hI6 ⊢
          obtain ⟨hI6, hL6⟩ := hI6
          generalize w5.heap.size = L at hL6 hRL hbL hvL hWL ⊢
          have hbLn : b ≠ L := by omega
          have hRLn : w.heap.size ≠ L := by omega
          have hskip := lskip hI6.pst 47 hs
          have HI6 : Hid (RdI s W1 b w.heap.size v5 { q3 with ps := ps } w6) := hI6
          have HL6 : Hid (Blk w6 L (pcells m) 134) := hL6
          clear hI6 hL6
          cases c : Mir.sees s.data.toList 47 { q3 with ps := ps } with
          | true =>
            have hM := HM.out
            rw [c, if_pos rfl] at hM
            rw [c, show Mir.skipM s.data.toList 47 { q3 with ps := ps } = { q3 with k := q3.k + 1, ps := ps } by unfold Mir.skipM; rw [if_pos c]] at hskip
            cases hwh : whoM s.data.toList { q3 with k := q3.k + 1, ps := ps } with
            | none => rw [hwh] at hM; cases hM
            | some y =>
              obtain ⟨y, q7⟩ := y
              rw [hwh] at hM
              have HF : Hid (finM s.data.toList fr tt (Mir.joinM q7.ps m y).1 { q7 with ps := (Mir.joinM q7.ps m y).2 } = some r) := hM
              have HC : Hid (∀ wx, PSt wx b s v5 { q3 with k := q3.k + 1, ps := ps } → Calls Tryz.prog 84 #[.pointer (some ⟨b, 0, none⟩)] wx fun e w' => Gives wx b s v5 y q7 e w') := fun wx hx => whole_any hx hs hwh
              clear hM HM hwh c
              go_wp2_with fail
              refine hskip.mono ?_
              rintro e w7 ⟨rfl, h7, m7⟩
              clear hskip
              have HI7 : Hid (RdI s W1 b w.heap.size v5 { q3 with k := q3.k + 1, ps := ps } w7) := HI6.out.go hbR h7 m7
              have HL7 : Hid (Blk w7 L (pcells m) 134) := keepL HL6.out (fun e => hbLn e.symm) hvL m7
              clear h7 m7 HI6 HL6
              go_wp2_with fail
              refine (HC.out _ HI7.out.pst).mono ?_
              rintro e w8 ⟨rfl, hy, v8, h8, f8, m8⟩
              clear HC
              have hvL8 : v8.ownBlock ≠ some L := f8.old hvL HL7.out.lt
              have HI8 : Hid (RdI s W1 b w.heap.size v8 q7 w8) := HI7.out.step hbR h8 f8 m8
              have hL8 : Blk w8 L (pcells m) 134 := keepL HL7.out (fun e => hbLn e.symm) hvL m8
              have hLlt := hL8.lt
              have HL8 : Hid (Blk w8 L (pcells m) 134) := hL8
              have l0 := hL8.cellA 0 rfl
              have l1 := hL8.cellA 1 rfl
              have l2 := hL8.cellA 2 rfl
              have HJ : Hid (∀ o, Calls Tryz.prog 85 #[.pointer (some ⟨b, 3, none⟩), pieceV m, pieceV y] (w8.alloc o) fun e w' => e = .returned (pieceV (Mir.joinM q7.ps m y).1) ∧ PSt w' b s v8 { q7 with ps := (Mir.joinM q7.ps m y).2 } ∧ Mod (Pt b v8) (w8.alloc o) w') := fun o => ljoin (HI8.out.alloc o).pst hm hy
              clear h8 f8 m8 HI7 HL7 hL8
              go_wp2_with fail
              refine (HJ.out _).mono ?_
              rintro e w9 ⟨rfl, h9, m9⟩
              clear HJ l0 l1 l2
              have hI9 := (HI8.out.alloc _).go hbR h9 m9
              have hL9 : Blk w9 L (pcells m) 134 := keepL (HL8.out.alloc _) (fun e => hbLn e.symm) hvL8 m9
              have hjo := join_ok (ps := q7.ps) hm hy
              clear h9 m9 HI8 HL8
              generalize hmf : (Mir.joinM q7.ps m y).1 = mf at HF hjo
              generalize hqf : ({ q7 with ps := (Mir.joinM q7.ps m y).2 } : Mir.PS) = qf at HF hI9
              have HIF0 : Hid (∀ b0 b1 b2, RdI s W1 b w.heap.size v8 qf (((w9.setCell ⟨L, 0, none⟩ b0).setCell ⟨L, 1, none⟩ b1).setCell ⟨L, 2, none⟩ b2)) := fun b0 b1 b2 => ⟨hI9.pst.put3 hbLn hvL8 _ _ _, hI9.fr, hI9.md.put3 hWL _ _ _, hI9.res.other3 hRLn _ _ _, hI9.nR⟩
              have HLF0 : Hid (∀ b0 b1 b2, Blk (((w9.setCell ⟨L, 0, none⟩ b0).setCell ⟨L, 1, none⟩ b1).setCell ⟨L, 2, none⟩ b2) L [b0, b1, b2] 134) := fun b0 b1 b2 => hL9.put3 _ _ _
              have q0 := hL9.cell 0 rfl
              have q1 := hL9.cell 1 rfl
              have q2 := hL9.cell 2 rfl
              have fq0 := hL9.free 0
              have fq1 := hL9.free 1
              have fq2 := hL9.free 2
              clear hI9 hL9
              go_wp2_with fail
              have hIF := HIF0.out (.bool mf.e) (.int .u32 (mf.f : Int)) (.int .u32 (mf.l : Int))
              have hLF : Blk _ L (pcells mf) 134 := HLF0.out (.bool mf.e) (.int .u32 (mf.f : Int)) (.int .u32 (mf.l : Int))
              clear q0 q1 q2 fq0 fq1 fq2 HIF0 HLF0
              generalize ((w9.setCell ⟨L, 0, none⟩ (.bool mf.e)).setCell ⟨L, 1, none⟩ (.int .u32 (mf.f : Int))).setCell ⟨L, 2, none⟩ (.int .u32 (mf.l : Int)) = wf at hIF hLF ⊢
              clear hmf hqf hvL
              have hvL := hvL8
              clear hvL8
              generalize v8 = vf at hvL hIF ⊢
              have hks := hIF.pst.ks
              cases hbad : qf.bad with
              | true =>
                have HRN : Hid (r = none) := by
                  have h := HF.out
                  unfold finM at h
                  rw [hbad, Bool.true_or, if_pos rfl] at h
                  exact (Option.some.inj h).symm
                have hcb := lbad hIF.pst
                rw [hbad] at hcb
                have HIF : Hid (RdI s W1 b w.heap.size vf qf wf) := hIF
                clear hIF hbad
                go_wp2_with fail
                refine hcb.mono ?_
                rintro e wz ⟨rfl, rfl⟩
                clear hcb
                have hIF := HIF.out
                clear HIF
                have z0 := hIF.res.cell 0 rfl
                have z1 := hIF.res.cell 1 rfl
                have z2 := hIF.res.cell 2 rfl
                have z3 := hIF.res.cell 3 rfl
                have z4 := hIF.res.cell 4 rfl
                have z5 := hIF.res.cell 5 rfl
                have fz0 := hIF.res.free 0
                have fz1 := hIF.res.free 1
                have fz2 := hIF.res.free 2
                have fz3 := hIF.res.free 3
                have fz4 := hIF.res.free 4
                have fz5 := hIF.res.free 5
                have HMD : Hid (Mod No w wz) := HW1.out.trans' hIF.md HSUB.out
                clear hIF
                go_wp2
                exact bodyPost_ret (v := .tuple #[noRule, .bool false]) (by simp [results, Tryz.results55, go_sem, noRule, z0, z1, z2, z3, z4, z5]) rfl (RulePost.no HRN.out (HMD.out.put6 (Nat.le_refl _) _ _ _ _ _ _) rfl)
              | false =>
                have hcb := lbad hIF.pst
                rw [hbad] at hcb
                have hcl := lleft hIF.pst hs
                by_cases hk : qf.k < s.size
                · have HRN : Hid (r = none) := by
                    have h := HF.out
                    unfold finM at h
                    rw [hbad, data_len, decide_eq_true hk, Bool.or_true, if_pos rfl] at h
                    exact (Option.some.inj h).symm
                  have hki : (0 : Int) < (s.size : Int) - (qf.k : Int) := by omega
                  generalize (s.size : Int) - (qf.k : Int) = D at hcl hki
                  have HIF : Hid (RdI s W1 b w.heap.size vf qf wf) := hIF
                  clear hIF hbad hk hks
                  go_wp2_with fail
                  refine hcb.mono ?_
                  rintro e wz ⟨rfl, rfl⟩
                  clear hcb
                  go_wp2_with fail
                  refine hcl.mono ?_
                  rintro e wy ⟨rfl, n9, rfl⟩
                  clear hcl
                  have hIF := HIF.out.drewN n9
                  clear HIF
                  generalize wz.drewN n9 = wq at hIF ⊢
                  have z0 := hIF.res.cell 0 rfl
                  have z1 := hIF.res.cell 1 rfl
                  have z2 := hIF.res.cell 2 rfl
                  have z3 := hIF.res.cell 3 rfl
                  have z4 := hIF.res.cell 4 rfl
                  have z5 := hIF.res.cell 5 rfl
                  have fz0 := hIF.res.free 0
                  have fz1 := hIF.res.free 1
                  have fz2 := hIF.res.free 2
                  have fz3 := hIF.res.free 3
                  have fz4 := hIF.res.free 4
                  have fz5 := hIF.res.free 5
                  have HMD : Hid (Mod No w wq) := HW1.out.trans' hIF.md HSUB.out
                  clear hIF
                  go_wp2
                  exact bodyPost_ret (v := .tuple #[noRule, .bool false]) (by simp [results, Tryz.results55, go_sem, noRule, z0, z1, z2, z3, z4, z5]) rfl (RulePost.no HRN.out (HMD.out.put6 (Nat.le_refl _) _ _ _ _ _ _) rfl)
                · have HRN : Hid (r = some ⟨fr, tt, qf.ps, mf⟩) := by
                    have h := HF.out
                    unfold finM at h
                    rw [hbad, data_len, decide_eq_false hk, if_neg (by simp)] at h
                    exact (Option.some.inj h).symm
                  have hki : ¬ (0 : Int) < (s.size : Int) - (qf.k : Int) := by omega
                  generalize (s.size : Int) - (qf.k : Int) = D at hcl hki
                  have HIF : Hid (RdI s W1 b w.heap.size vf qf wf) := hIF
                  have HLF : Hid (Blk wf L (pcells mf) 134) := hLF
                  clear hIF hLF hbad hk hks
                  go_wp2_with fail
                  refine hcb.mono ?_
                  rintro e wz ⟨rfl, rfl⟩
                  clear hcb
                  go_wp2_with fail
                  refine hcl.mono ?_
                  rintro e wy ⟨rfl, n9, rfl⟩
                  clear hcl
                  have hIF := HIF.out.drewN n9
                  have hLF := HLF.out.drewN n9
                  clear HIF HLF
                  generalize wz.drewN n9 = wq at hIF hLF ⊢
                  have HIF : Hid (RdI s W1 b w.heap.size vf qf wq) := hIF
                  have l0 := hLF.cell 0 rfl
                  have l1 := hLF.cell 1 rfl
                  have l2 := hLF.cell 2 rfl
                  have p3 := hIF.pst.blk.cell 3 rfl
                  have p4 := hIF.pst.blk.cell 4 rfl
                  have p5 := hIF.pst.blk.cell 5 rfl
                  have p6 := hIF.pst.blk.cell 6 rfl
                  have fp4 := hIF.pst.blk.free 4
                  have fp5 := hIF.pst.blk.free 5
                  have fp6 := hIF.pst.blk.free 6
                  have z0 := hIF.res.cell 0 rfl
                  have z1 := hIF.res.cell 1 rfl
                  have z2 := hIF.res.cell 2 rfl
                  have z3 := hIF.res.cell 3 rfl
                  have z4 := hIF.res.cell 4 rfl
                  have z5 := hIF.res.cell 5 rfl
                  have fz0 := hIF.res.free 0
                  have fz1 := hIF.res.free 1
                  have fz2 := hIF.res.free 2
                  have fz3 := hIF.res.free 3
                  have fz4 := hIF.res.free 4
                  have fz5 := hIF.res.free 5
                  obtain ⟨va, vcap, hvf, -, -, -⟩ := hIF.pst.row.any
                  generalize hqn : qf.ps.length = qn at hvf
                  have HVF : Hid (vf = .slice va qn vcap) := hvf
                  rw [hvf] at p3
                  clear hIF hLF hvf hqn
                  have hnb : w.heap.size ≠ b := fun e => hbR e.symm
                  go_wp2
                  refine bodyPost_ret (v := .tuple #[.agg #[.string S1, .string S2, .slice va qn vcap, .bool mf.e, .int .u32 (mf.f : Int), .int .u32 (mf.l : Int)], .bool true]) (by simp [results, Tryz.results55, go_sem, z0, z1, z2, z3, z4, z5]) rfl (RulePost.yes (vp := vf) HRN.out ?_ ?_ ?_)
                  · have hm := HW1.out.trans' HIF.out.md HSUB.out
                    exact (((hm.setCell (a := ⟨b, 4, none⟩) (fun h => absurd h (by simp; omega)) _).setCell (a := ⟨b, 5, none⟩) (fun h => absurd h (by simp; omega)) _).setCell (a := ⟨b, 6, none⟩) (fun h => absurd h (by simp; omega)) _).put6 (Nat.le_refl _) _ _ _ _ _ _
                  · rw [HRV.out, HVF.out]
                  · refine ⟨?_, HIF.out.pst.ok, hjo, fun g hg => ?_, HFR.out⟩
                    · have h1 := HIF.out.pst.ne
                      have h2 := HIF.out.nR
                      exact ((((((((HIF.out.pst.row.other (a := ⟨b, 4, none⟩) h1 _).other (a := ⟨b, 5, none⟩) h1 _).other (a := ⟨b, 6, none⟩) h1 _).other (a := ⟨w.heap.size, 0, none⟩) h2 _).other (a := ⟨w.heap.size, 1, none⟩) h2 _).other (a := ⟨w.heap.size, 2, none⟩) h2 _).other (a := ⟨w.heap.size, 3, none⟩) h2 _).other (a := ⟨w.heap.size, 4, none⟩) h2 _).other (a := ⟨w.heap.size, 5, none⟩) h2 _
                    · rcases HIF.out.fr g hg with h | h
                      · cases h
                      · exact Nat.le_trans HW1.out.size h
          | false =>
            have hM := HM.out
            rw [c, if_neg (by simp)] at hM
            rw [c, show Mir.skipM s.data.toList 47 { q3 with ps := ps } = { q3 with ps := ps } by unfold Mir.skipM; rw [c, if_neg (by simp)]] at hskip
            generalize hqf : ({ q3 with ps := ps } : Mir.PS) = qf at hM hskip HI6
            have HF : Hid (finM s.data.toList fr tt m qf = some r) := hM
            clear hM HM c hqf
            go_wp2_with fail
            refine hskip.mono ?_
            rintro e w7 ⟨rfl, h7, m7⟩
            clear hskip
            have hIF := HI6.out.go hbR h7 m7
            have hLF := keepL HL6.out (fun e => hbLn e.symm) hvL m7
            clear h7 m7 HI6 HL6
            generalize v5 = vf at hvL hIF ⊢
            generalize w7 = wf at hIF hLF ⊢
            have hjo := hm
            generalize m = mf at hjo hLF HF ⊢
            have hks := hIF.pst.ks
            cases hbad : qf.bad with
            | true =>
              have HRN : Hid (r = none) := by
                have h := HF.out
                unfold finM at h
                rw [hbad, Bool.true_or, if_pos rfl] at h
                exact (Option.some.inj h).symm
              have hcb := lbad hIF.pst
              rw [hbad] at hcb
              have HIF : Hid (RdI s W1 b w.heap.size vf qf wf) := hIF
              clear hIF hbad
              go_wp2_with fail
              refine hcb.mono ?_
              rintro e wz ⟨rfl, rfl⟩
              clear hcb
              have hIF := HIF.out
              clear HIF
              have z0 := hIF.res.cell 0 rfl
              have z1 := hIF.res.cell 1 rfl
              have z2 := hIF.res.cell 2 rfl
              have z3 := hIF.res.cell 3 rfl
              have z4 := hIF.res.cell 4 rfl
              have z5 := hIF.res.cell 5 rfl
              have fz0 := hIF.res.free 0
              have fz1 := hIF.res.free 1
              have fz2 := hIF.res.free 2
              have fz3 := hIF.res.free 3
              have fz4 := hIF.res.free 4
              have fz5 := hIF.res.free 5
              have HMD : Hid (Mod No w wz) := HW1.out.trans' hIF.md HSUB.out
              clear hIF
              go_wp2
              exact bodyPost_ret (v := .tuple #[noRule, .bool false]) (by simp [results, Tryz.results55, go_sem, noRule, z0, z1, z2, z3, z4, z5]) rfl (RulePost.no HRN.out (HMD.out.put6 (Nat.le_refl _) _ _ _ _ _ _) rfl)
            | false =>
              have hcb := lbad hIF.pst
              rw [hbad] at hcb
              have hcl := lleft hIF.pst hs
              by_cases hk : qf.k < s.size
              · have HRN : Hid (r = none) := by
                  have h := HF.out
                  unfold finM at h
                  rw [hbad, data_len, decide_eq_true hk, Bool.or_true, if_pos rfl] at h
                  exact (Option.some.inj h).symm
                have hki : (0 : Int) < (s.size : Int) - (qf.k : Int) := by omega
                generalize (s.size : Int) - (qf.k : Int) = D at hcl hki
                have HIF : Hid (RdI s W1 b w.heap.size vf qf wf) := hIF
                clear hIF hbad hk hks
                go_wp2_with fail
                refine hcb.mono ?_
                rintro e wz ⟨rfl, rfl⟩
                clear hcb
                go_wp2_with fail
                refine hcl.mono ?_
                rintro e wy ⟨rfl, n9, rfl⟩
                clear hcl
                have hIF := HIF.out.drewN n9
                clear HIF
                generalize wz.drewN n9 = wq at hIF ⊢
                have z0 := hIF.res.cell 0 rfl
                have z1 := hIF.res.cell 1 rfl
                have z2 := hIF.res.cell 2 rfl
                have z3 := hIF.res.cell 3 rfl
                have z4 := hIF.res.cell 4 rfl
                have z5 := hIF.res.cell 5 rfl
                have fz0 := hIF.res.free 0
                have fz1 := hIF.res.free 1
                have fz2 := hIF.res.free 2
                have fz3 := hIF.res.free 3
                have fz4 := hIF.res.free 4
                have fz5 := hIF.res.free 5
                have HMD : Hid (Mod No w wq) := HW1.out.trans' hIF.md HSUB.out
                clear hIF
                go_wp2
                exact bodyPost_ret (v := .tuple #[noRule, .bool false]) (by simp [results, Tryz.results55, go_sem, noRule, z0, z1, z2, z3, z4, z5]) rfl (RulePost.no HRN.out (HMD.out.put6 (Nat.le_refl _) _ _ _ _ _ _) rfl)
              · have HRN : Hid (r = some ⟨fr, tt, qf.ps, mf⟩) := by
                  have h := HF.out
                  unfold finM at h
                  rw [hbad, data_len, decide_eq_false hk, if_neg (by simp)] at h
                  exact (Option.some.inj h).symm
                have hki : ¬ (0 : Int) < (s.size : Int) - (qf.k : Int) := by omega
                generalize (s.size : Int) - (qf.k : Int) = D at hcl hki
                have HIF : Hid (RdI s W1 b w.heap.size vf qf wf) := hIF
                have HLF : Hid (Blk wf L (pcells mf) 134) := hLF
                clear hIF hLF hbad hk hks
                go_wp2_with fail
                refine hcb.mono ?_
                rintro e wz ⟨rfl, rfl⟩
                clear hcb
                go_wp2_with fail
                refine hcl.mono ?_
                rintro e wy ⟨rfl, n9, rfl⟩
                clear hcl
                have hIF := HIF.out.drewN n9
                have hLF := HLF.out.drewN n9
                clear HIF HLF
                generalize wz.drewN n9 = wq at hIF hLF ⊢
                have HIF : Hid (RdI s W1 b w.heap.size vf qf wq) := hIF
                have l0 := hLF.cell 0 rfl
                have l1 := hLF.cell 1 rfl
                have l2 := hLF.cell 2 rfl
                have p3 := hIF.pst.blk.cell 3 rfl
                have p4 := hIF.pst.blk.cell 4 rfl
                have p5 := hIF.pst.blk.cell 5 rfl
                have p6 := hIF.pst.blk.cell 6 rfl
                have fp4 := hIF.pst.blk.free 4
                have fp5 := hIF.pst.blk.free 5
                have fp6 := hIF.pst.blk.free 6
                have z0 := hIF.res.cell 0 rfl
                have z1 := hIF.res.cell 1 rfl
                have z2 := hIF.res.cell 2 rfl
                have z3 := hIF.res.cell 3 rfl
                have z4 := hIF.res.cell 4 rfl
                have z5 := hIF.res.cell 5 rfl
                have fz0 := hIF.res.free 0
                have fz1 := hIF.res.free 1
                have fz2 := hIF.res.free 2
                have fz3 := hIF.res.free 3
                have fz4 := hIF.res.free 4
                have fz5 := hIF.res.free 5
                obtain ⟨va, vcap, hvf, -, -, -⟩ := hIF.pst.row.any
                generalize hqn : qf.ps.length = qn at hvf
                have HVF : Hid (vf = .slice va qn vcap) := hvf
                rw [hvf] at p3
                clear hIF hLF hvf hqn
                have hnb : w.heap.size ≠ b := fun e => hbR e.symm
                go_wp2
                refine bodyPost_ret (v := .tuple #[.agg #[.string S1, .string S2, .slice va qn vcap, .bool mf.e, .int .u32 (mf.f : Int), .int .u32 (mf.l : Int)], .bool true]) (by simp [results, Tryz.results55, go_sem, z0, z1, z2, z3, z4, z5]) rfl (RulePost.yes (vp := vf) HRN.out ?_ ?_ ?_)
                · have hm := HW1.out.trans' HIF.out.md HSUB.out
                  exact (((hm.setCell (a := ⟨b, 4, none⟩) (fun h => absurd h (by simp; omega)) _).setCell (a := ⟨b, 5, none⟩) (fun h => absurd h (by simp; omega)) _).setCell (a := ⟨b, 6, none⟩) (fun h => absurd h (by simp; omega)) _).put6 (Nat.le_refl _) _ _ _ _ _ _
                · rw [HRV.out, HVF.out]
                · refine ⟨?_, HIF.out.pst.ok, hjo, fun g hg => ?_, HFR.out⟩
                  · have h1 := HIF.out.pst.ne
                    have h2 := HIF.out.nR
                    exact ((((((((HIF.out.pst.row.other (a := ⟨b, 4, none⟩) h1 _).other (a := ⟨b, 5, none⟩) h1 _).other (a := ⟨b, 6, none⟩) h1 _).other (a := ⟨w.heap.size, 0, none⟩) h2 _).other (a := ⟨w.heap.size, 1, none⟩) h2 _).other (a := ⟨w.heap.size, 2, none⟩) h2 _).other (a := ⟨w.heap.size, 3, none⟩) h2 _).other (a := ⟨w.heap.size, 4, none⟩) h2 _).other (a := ⟨w.heap.size, 5, none⟩) h2 _
                  · rcases HIF.out.fr g hg with h | h
                    · cases h
                    · exact Nat.le_trans HW1.out.size h
end Go.Proofs.YtmbapmbpnnaanabGreatDoor
namespace Go.Proofs.YtmbapmbpnnaanabGreatDoor
open Go.RowKit
attribute [local go_sem ↓] Go.wp_at_zero Go.wp_at_succ

theorem lineEnd_hit (l : List UInt8) (k : Nat) (h : l[k]? = some 10) : Mir.lineEnd (l.drop k) = 0 := by
  obtain ⟨hk, h2⟩ := List.getElem?_eq_some_iff.1 h
  rw [List.drop_eq_getElem_cons hk, h2]
  rfl
theorem lineEnd_miss (l : List UInt8) (k : Nat) (c : UInt8) (h : l[k]? = some c) (hc : c ≠ 10) : Mir.lineEnd (l.drop k) = Mir.lineEnd (l.drop (k + 1)) + 1 := by
  obtain ⟨hk, h2⟩ := List.getElem?_eq_some_iff.1 h
  rw [List.drop_eq_getElem_cons hk, h2, Mir.lineEnd, if_neg hc]
theorem lineEnd_end (l : List UInt8) (k : Nat) (h : l.length ≤ k) : Mir.lineEnd (l.drop k) = 0 := by rw [List.drop_of_length_le h]; rfl

set_option maxHeartbeats 1000000 in
theorem lineEnd_any (s : ByteArray) (k : Nat) (w : World) (hs : s.size ≤ 1048576) (hk : k ≤ s.size) :
    Calls Tryz.prog 54 #[.string s, .int .i64 (k : Int)] w fun e w' => e = .returned (.int .i64 ((k + Mir.lineEnd (s.data.toList.drop k) : Nat) : Int)) ∧ w' = w := by
  obtain ⟨l, hl⟩ : ∃ l, l = s.data.toList := ⟨_, rfl⟩
  have HSZ : Hid (s.size = l.length) := by show s.size = l.length; rw [hl, data_len]
  have HG : Hid (∀ (i : Nat) (h : i < s.size), l[i]? = some s[i]) := fun i h => by rw [hl]; exact Lib.data_getElem? s i h
  rw [← hl]
  clear hl
  generalize hE : k + Mir.lineEnd (l.drop k) = E
  go_enter Tryz.func54, Tryz.ntmps54
  go_wp2_with fail
  go_loopg [1] (s.size - k) (fun g ii wr => ∃ j : Nat, j ≤ s.size ∧ g = s.size - j ∧ ii = .int .i64 (j : Int) ∧ j + Mir.lineEnd (l.drop j) = E ∧ wr = w)
  case atStart => exact ⟨k, hk, rfl, rfl, hE, rfl⟩
  case round =>
    obtain ⟨j, hj, hg, rfl, hE2, rfl⟩ := hrel
    by_cases hlt : j < s.size
    · have hx := HG.out j hlt
      have hi : (j : Int) < (s.size : Int) := by omega
      have hi0 : (0 : Int) ≤ (j : Int) := by omega
      have hd : decide (j < s.size) = true := decide_eq_true hlt
      by_cases hc : s[j] = 10
      · have HE : Hid (j = E) := by
          show j = E
          rw [hc] at hx
          rw [← hE2, lineEnd_hit l j hx]; rfl
        have hne : (((s[j]).toNat : Int) == 10) = true := by rw [hc]; rfl
        clear hx hE2 hc
        go_wp2
        go_ret
        exact ⟨wrap_ret (by rw [HE.out]), rfl⟩
      · have HE : Hid (j + 1 + Mir.lineEnd (l.drop (j + 1)) = E) := by
          show j + 1 + Mir.lineEnd (l.drop (j + 1)) = E
          rw [← hE2, lineEnd_miss l j _ hx hc]; omega
        have hne : (((s[j]).toNat : Int) == 10) = false := by
          rw [beq_eq_false_iff_ne]
          intro h
          exact hc (UInt8.toNat_inj.1 (by show (s[j]).toNat = 10; omega))
        clear hx hE2 hc
        go_wp2
        go_roundg (s.size - (j + 1))
        case measure => omega
        case rel => exact ⟨j + 1, by omega, rfl, by go_num, HE.out, rfl⟩
    · have HE : Hid (j = E) := by
        show j = E
        rw [← hE2, lineEnd_end l j (by have := HSZ.out; omega)]; rfl
      have hi : ¬ (j : Int) < (s.size : Int) := by omega
      have hd : decide (j < s.size) = false := decide_eq_false hlt
      clear hE2
      go_wp2
      go_ret
      exact ⟨wrap_ret (by rw [HE.out]), rfl⟩
end Go.Proofs.YtmbapmbpnnaanabGreatDoor
namespace Go.Proofs.YtmbapmbpnnaanabGreatDoor
open Go.RowKit
attribute [local go_sem ↓] Go.wp_at_zero Go.wp_at_succ

/-- Rules in a slice, each with where its places lie. -/
def RuE : Enc (Mir.Rule × Value) := ⟨138, 6, fun r => [.string ⟨r.1.fr.toArray⟩, .string ⟨r.1.tt.toArray⟩, r.2, .bool r.1.wh.e, .int .u32 (r.1.wh.f : Int), .int .u32 (r.1.wh.l : Int)], fun _ => rfl⟩
theorem Tryz.info138 : (Tryz.prog.info? 138).map (fun i => (i.zero, i.size, i.bytes)) = some (some (.agg #[.string ⟨#[]⟩, .string ⟨#[]⟩, .slice none 0 0, .bool false, .int .u32 0, .int .u32 0]), 6, 72) := by kernel_rfl

theorem Row.apart {α β : Type} {E : Enc α} {E' : Enc β} {w : World} {v v' : Value} {xs : List α} {ys : List β} (h : Row E w v xs) (h' : Row E' w v' ys) (ht : E.T ≠ E'.T) {g : Nat} (hg : v.ownBlock = some g) : v'.ownBlock ≠ some g := by
  intro hg'
  rcases h.2 with ⟨rfl, _⟩ | ⟨g1, cap, cur, rfl, _, hh, _⟩
  · cases hg
  · rcases h'.2 with ⟨rfl, _⟩ | ⟨g2, cap', cur', rfl, _, hh', _⟩
    · cases hg'
    · cases hg
      cases hg'
      rw [hh] at hh'
      injection hh' with e
      injection e with _ e2
      exact ht e2
/-- The rules lie well. -/
structure Rules (w : World) (base : Nat) (v : Value) (prs : List (Mir.Rule × Value)) : Prop where
  row : Row RuE w v prs
  all : ∀ r ∈ prs, RuOk w base r.1 r.2
  new : ∀ g, v.ownBlock = some g → base ≤ g
theorem RuOk.mod {w w' : World} {base : Nat} {r : Mir.Rule} {v : Value} {S : Nat → Prop} (h : RuOk w base r v) (hm : Mod S w w') (hn : ∀ g, v.ownBlock = some g → ¬ S g) : RuOk w' base r v := ⟨h.row.mod hm hn, h.ps, h.wh, h.new, h.fr⟩
theorem Rules.nil (w : World) (base : Nat) : Rules w base (.slice none 0 0) [] := ⟨Row.nil _ _, (fun r hr => by cases hr), (fun g hg => by cases hg)⟩
theorem Rules.no {w w' : World} {base : Nat} {v : Value} {prs : List (Mir.Rule × Value)} (h : Rules w base v prs) (hm : Mod No w w') : Rules w' base v prs := ⟨h.row.no hm, fun r hr => (h.all r hr).mod hm fun _ _ x => x, h.new⟩
theorem Rules.snoc {w w' : World} {base : Nat} {v v' : Value} {prs : List (Mir.Rule × Value)} {r : Mir.Rule} {vr : Value} (h : Rules w base v prs) (hr : RuOk w base r vr) (hg : w.grownBy w' v.ownBlock) (hrow : Row RuE w' v' (prs ++ [(r, vr)])) (hnew : ∀ g, v'.ownBlock = some g → base ≤ g) : Rules w' base v' (prs ++ [(r, vr)]) := by
  have key : ∀ r v1, RuOk w base r v1 → RuOk w' base r v1 := fun r v1 h1 => by
    refine ⟨h1.row.grown hg ?_, h1.ps, h1.wh, h1.new, h1.fr⟩
    cases e : v1.ownBlock with
    | none => exact .inl rfl
    | some g => exact .inr fun e2 => h.row.apart h1.row (by decide) e2.symm e
  exact ⟨hrow, fun x hx => by
    rcases List.mem_append.1 hx with h2 | h2
    · exact key _ _ (h.all x h2)
    · rw [List.mem_singleton.1 h2]; exact key _ _ hr, hnew⟩

/-- What 'Read' gives. -/
def ReadPost (rs : List Mir.Rule) (line er : Nat) (w : World) (e : Ending) (w' : World) : Prop :=
  Mod No w w' ∧ ∃ v prs, e = .returned (.tuple #[v, .int .i64 (line : Int), .int .i64 (er : Int)]) ∧ prs.map Prod.fst = rs ∧ Rules w' w.heap.size v prs ∧ rs.length ≤ 4

theorem extract_take (s : ByteArray) (k e : Nat) : (s.extract k (k + e)).data.toList = (s.data.toList.drop k).take e := by
  rw [extract_data, show k + e - k = e by omega]
theorem lineEnd_le : ∀ l : List UInt8, Mir.lineEnd l ≤ l.length
  | [] => by simp [Mir.lineEnd]
  | c :: l => by
    rw [Mir.lineEnd]
    split
    · simp
    · have := lineEnd_le l; simp; omega

set_option maxHeartbeats 4000000 in
set_option maxRecDepth 100000 in
theorem read_rules (s : ByteArray) (w : World) (hs : s.size ≤ 1048576) {F : Nat} {rs : List Mir.Rule} {line er : Nat} (hM : Mir.readM F s.data.toList 0 [] = some (rs, line, er)) :
    Calls Tryz.prog 33 #[.string s] w fun e w' => ReadPost rs line er w e w' := by
  obtain ⟨i0, hinf, hz0, hz1, hz2⟩ := info_parts Tryz.info138
  obtain ⟨l, hl⟩ : ∃ l, l = s.data.toList := ⟨_, rfl⟩
  rw [← hl] at hM
  have HSZ : Hid (s.size = l.length) := by show s.size = l.length; rw [hl, data_len]
  have HLE : Hid (∀ k wx, k ≤ s.size → Calls Tryz.prog 54 #[.string s, .int .i64 (k : Int)] wx fun e w' => e = .returned (.int .i64 ((k + Mir.lineEnd (l.drop k) : Nat) : Int)) ∧ w' = wx) := fun k wx hk => by
    rw [hl]; exact lineEnd_any s k wx hs hk
  have HRR : Hid (∀ k e wx r, k + e ≤ s.size → Mir.ruleM ((l.drop k).take e) = some r → Calls Tryz.prog 55 #[.string (s.extract k (k + e))] wx fun e w' => RulePost r wx e w') := fun k e wx r hk hr => by
    refine readRule_any _ wx ?_ (by rw [extract_take, ← hl]; exact hr)
    rw [← data_len, extract_take, List.length_take, List.length_drop]
    rw [data_len]; omega
  have HM : Hid (Mir.readM F l 0 [] = some (rs, line, er)) := hM
  clear hM hl
  go_enter Tryz.func33, Tryz.ntmps33
  go_wp2_with fail
  go_loopg [5, 6, 7] F (fun f v5 v6 v7 wr => ∃ (k n : Nat) (prs : List (Mir.Rule × Value)), v6 = .int .i64 (n : Int) ∧ v7 = .int .i64 (k : Int) ∧ k ≤ s.size + 1 ∧ (k ≤ s.size) ∧ n ≤ k ∧ prs.length = min n 4 ∧ Rules wr w.heap.size v5 prs ∧ Mod No w wr ∧ Mir.readM f (l.drop k) n (prs.map Prod.fst) = some (rs, line, er))
  case atStart => exact ⟨0, 0, [], rfl, rfl, by omega, by omega, by omega, rfl, Rules.nil _ _, Mod.refl _ _, HM.out⟩
  case round =>
    obtain ⟨k, n, prs, rfl, rfl, -, hk, hn, hpl, hru, hm, hrd⟩ := hrel
    match gk, hrd with
    | 0, hrd => rw [Mir.readM] at hrd; cases hrd
    | f + 1, hrd =>
      rw [Mir.readM] at hrd
      have HM2 : Hid (Mod No w wr) := hm
      have HRU : Hid (Rules wr w.heap.size u5 prs) := hru
      by_cases hlt : k < s.size
      · have hli : k < l.length := by have := HSZ.out; omega
        have hem : (l.drop k).isEmpty = false := by rw [List.drop_eq_getElem_cons hli]; rfl
        rw [hem, if_neg (by simp)] at hrd
        dsimp only at hrd
        have hle : k + Mir.lineEnd (l.drop k) ≤ s.size := by
          have := lineEnd_le (l.drop k)
          rw [List.length_drop] at this
          have := HSZ.out
          omega
        have hcall := HLE.out k wr hk
        have hll : (l.drop k).length = s.size - k := by rw [List.length_drop, HSZ.out]
        rw [hll, List.drop_drop] at hrd
        generalize hee : Mir.lineEnd (l.drop k) = e at hrd hle hcall
        cases hr : Mir.ruleM ((l.drop k).take e) with
        | none => rw [hr] at hrd; cases hrd
        | some r =>
          rw [hr] at hrd
          have HR : Hid (∀ wx, Calls Tryz.prog 55 #[.string (s.extract k (k + e))] wx fun e w' => RulePost r wx e w') := fun wx => HRR.out k e wx r hle hr
          clear hr hee hem hli
          obtain ⟨E, hE⟩ : ∃ E, E = k + e := ⟨_, rfl⟩
          rw [← hE] at hcall HR hle
          have HE : Hid (E = k + e) := hE
          have hki : (k : Int) < (s.size : Int) := by omega
          have hki2 : (k : Int) ≤ (E : Int) := by omega
          have hki3 : (E : Int) ≤ (s.size : Int) := by omega
          have hki4 : (0 : Int) ≤ (k : Int) := by omega
          have hki5 : (0 : Int) ≤ (E : Int) := by omega
          clear hE
          cases r with
          | none =>
            simp only [Option.some.injEq, Prod.mk.injEq] at hrd
            obtain ⟨rfl, rfl, rfl⟩ := hrd
            clear hru hm
            go_wp2_with fail
            refine hcall.mono ?_
            rintro e1 w1 ⟨rfl, rfl⟩
            clear hcall
            go_wp2_with fail
            refine (HR.out _).mono ?_
            rintro e2 w2 ⟨m2, rfl⟩
            clear HR
            unfold noRule
            go_wp2
            exact bodyPost_ret (v := .tuple #[.slice none 0 0, .int .i64 ((n : Int) + 1), .int .i64 1]) (by simp [results, Tryz.results33, go_sem]) rfl ⟨(HM2.out.no m2).alloc _, _, [], rfl, rfl, Rules.nil _ _, by simp⟩
          | some ru =>
            dsimp only at hrd
            by_cases hend : E = s.size
            · rw [if_pos (by have := HE.out; omega)] at hrd
              simp only [Option.some.injEq, Prod.mk.injEq] at hrd
              obtain ⟨rfl, rfl, rfl⟩ := hrd
              have hendi : ((E : Int) == (s.size : Int)) = true := by rw [hend]; simp
              clear hru hm hend
              go_wp2_with fail
              refine hcall.mono ?_
              rintro e1 w1 ⟨rfl, rfl⟩
              clear hcall
              go_wp2_with fail
              refine (HR.out _).mono ?_
              rintro e2 w2 ⟨m2, vp, rfl, hok⟩
              clear HR
              obtain ⟨va, vcap, rfl, -, -, -⟩ := hok.row.any
              unfold ruleV
              clear hok
              go_wp2
              exact bodyPost_ret (v := .tuple #[.slice none 0 0, .int .i64 ((n : Int) + 1), .int .i64 1]) (by simp [results, Tryz.results33, go_sem]) rfl ⟨(HM2.out.no m2).alloc _, _, [], rfl, rfl, Rules.nil _ _, by simp⟩
            · rw [if_neg (by have := HE.out; omega)] at hrd
              have hendi : ((E : Int) == (s.size : Int)) = false := by rw [beq_eq_false_iff_ne]; omega
              have hlt2 : E < s.size := by omega
              rw [show k + (e + 1) = E + 1 by have := HE.out; omega] at hrd
              by_cases hn4 : n + 1 ≤ 4
              · rw [if_pos hn4] at hrd
                have hn4i : (n : Int) + 1 ≤ 4 := by omega
                have hpn : prs.length = n := by omega
                have HRD : Hid (Mir.readM f (l.drop (E + 1)) (n + 1) (prs.map Prod.fst ++ [ru]) = some (rs, line, er)) := hrd
                clear hru hm hend hrd
                go_wp2_with fail
                refine hcall.mono ?_
                rintro e1 w1 ⟨rfl, rfl⟩
                clear hcall
                go_wp2_with fail
                refine (HR.out _).mono ?_
                rintro e2 w2 ⟨m2, vp, rfl, hok⟩
                clear HR
                have HOK : Hid (RuOk w2 w1.heap.size ru vp) := hok
                obtain ⟨va, vcap, rfl, -, -, -⟩ := hok.row.any
                generalize hvn : ru.ps.length = vn at *
                have HRU2 : Hid (Rules w2 w.heap.size u5 prs) := HRU.out.no m2
                have HMM : Hid (Mod No w w2) := HM2.out.no m2
                have HOK2 : Hid (RuOk w2 w.heap.size ru (.slice va vn vcap)) := ⟨HOK.out.row, HOK.out.ps, HOK.out.wh, fun g hg => Nat.le_trans HM2.out.size (HOK.out.new g hg), HOK.out.fr⟩
                obtain ⟨ua, ucap, hu5, -, -, -⟩ := HRU2.out.row.any
                rw [hpn] at hu5
                subst hu5
                have hown : w2.ownsRow 0 138 6 (.slice ua n ucap) n (prs.flatMap RuE.f) := by have := HRU2.out.row; unfold Row at this; rw [hpn] at this; exact this
                unfold ruleV
                have HF : Hid (RuE.f (ru, .slice va vn vcap) = [.string ⟨ru.fr.toArray⟩, .string ⟨ru.tt.toArray⟩, .slice va vn vcap, .bool ru.wh.e, .int .u32 (ru.wh.f : Int), .int .u32 (ru.wh.l : Int)]) := rfl
                clear hok hvn
                go_wp2_with (at_builtin; refine wpList_append_lies _ rfl _ _ 81 rfl 0 138 i0 _ 6 72 Tryz.underlying81 hinf hz0 hz1 hz2 rfl (by omega) (.slice ua n ucap) n (prs.flatMap RuE.f) rfl ((hown.alloc _).alloc _) ⟨w2.heap.size + 1, 0, none⟩ 1 1 [.string ⟨ru.fr.toArray⟩, .string ⟨ru.tt.toArray⟩, .slice va vn vcap, .bool ru.wh.e, .int .u32 (ru.wh.f : Int), .int .u32 (ru.wh.l : Int)] rfl rfl ?c1 ?c2 (by omega) (by unfold maxLen; omega) (by omega) (by simp) (w2.heap.size + 2) (by simp) ?_)
                case c1 => exact World.news_of_block (cs := #[.string ⟨ru.fr.toArray⟩, .string ⟨ru.tt.toArray⟩, .slice va vn vcap, .bool ru.wh.e, .int .u32 (ru.wh.f : Int), .int .u32 (ru.wh.l : Int)]) (t := 138) (fr := (0, 0)) (new2_1 w2 _ _)
                case c2 => intro u hu; simp at hu; rcases hu with rfl | rfl | rfl | rfl | rfl | rfl <;> rfl
                intro gg cap2 w3 hown3 hgrow hat hltt
                have hma : Mod No w2 ((w2.alloc (Obj.cells #[.string ⟨ru.fr.toArray⟩, .string ⟨ru.tt.toArray⟩, .slice va vn vcap, .bool ru.wh.e, .int .u32 (ru.wh.f : Int), .int .u32 (ru.wh.l : Int)] 138)).alloc (Obj.cells #[.string ⟨ru.fr.toArray⟩, .string ⟨ru.tt.toArray⟩, .slice va vn vcap, .bool ru.wh.e, .int .u32 (ru.wh.f : Int), .int .u32 (ru.wh.l : Int)] 138)) := ((Mod.refl _ _).alloc _).alloc _
                have hlow : ∀ g, (Value.slice ua n ucap).ownBlock = some g → w.heap.size ≤ g := HRU2.out.new
                have hsz2 := HMM.out.size
                have HRU3 : Hid (Rules w3 w.heap.size (.slice (some ⟨gg, 0, none⟩) (n + 1) cap2) (prs ++ [(ru, .slice va vn vcap)])) := by
                  refine (HRU2.out.no hma).snoc (HOK2.out.mod hma fun _ _ x => x) hgrow (Row.snoc ?_) (fun g hg => ?_)
                  · rw [HF.out, hpn]
                    exact hown3
                  · cases hg
                    rcases hat with h | h
                    · exact hlow gg h
                    · show w.heap.size ≤ gg; omega
                have HM3 : Hid (Mod No w w3) := ((HMM.out.no hma).grown hgrow fun g hg hlt => by have := hlow g hg; omega)
                clear hown3 hgrow hat hltt hown hma
                go_wp2
                go_roundg f
                case measure => omega
                case rel => exact ⟨E + 1, n + 1, prs ++ [(ru, .slice va vn vcap)], by go_num, by go_num, by omega, by omega, by have := HE.out; omega, by simp; omega, HRU3.out, HM3.out, by rw [List.map_append]; exact HRD.out⟩
              · rw [if_neg hn4] at hrd
                have hn4i : ¬ (n : Int) + 1 ≤ 4 := by omega
                have HRD : Hid (Mir.readM f (l.drop (E + 1)) (n + 1) (prs.map Prod.fst) = some (rs, line, er)) := hrd
                clear hru hm hend hrd
                go_wp2_with fail
                refine hcall.mono ?_
                rintro e1 w1 ⟨rfl, rfl⟩
                clear hcall
                go_wp2_with fail
                refine (HR.out _).mono ?_
                rintro e2 w2 ⟨m2, vp, rfl, hok⟩
                clear HR
                obtain ⟨va, vcap, rfl, -, -, -⟩ := hok.row.any
                unfold ruleV
                clear hok
                go_wp2
                go_roundg f
                case measure => omega
                case rel => exact ⟨E + 1, n + 1, prs, by go_num, by go_num, by omega, by omega, by have := HE.out; omega, by omega, (HRU.out.no m2).no ((Mod.refl _ _).alloc _), (HM2.out.no m2).alloc _, HRD.out⟩
      · have hem : (l.drop k).isEmpty = true := by rw [List.drop_of_length_le (by have := HSZ.out; omega)]; rfl
        rw [hem, if_pos rfl] at hrd
        have hi : ¬ (k : Int) < (s.size : Int) := by omega
        clear hru hm
        by_cases hn1 : n < 1
        · rw [if_pos (Or.inl hn1)] at hrd
          simp only [Option.some.injEq, Prod.mk.injEq] at hrd
          obtain ⟨rfl, rfl, rfl⟩ := hrd
          have hn1i : (n : Int) < 1 := by omega
          go_wp2
          exact bodyPost_ret (v := .tuple #[.slice none 0 0, .int .i64 0, .int .i64 2]) (by simp [results, Tryz.results33, go_sem]) rfl ⟨HM2.out, _, [], rfl, rfl, Rules.nil _ _, by simp⟩
        · have hn1i : ¬ (n : Int) < 1 := by omega
          by_cases hn4 : 4 < n
          · rw [if_pos (Or.inr hn4)] at hrd
            simp only [Option.some.injEq, Prod.mk.injEq] at hrd
            obtain ⟨rfl, rfl, rfl⟩ := hrd
            have hn4i : (4 : Int) < (n : Int) := by omega
            go_wp2
            exact bodyPost_ret (v := .tuple #[.slice none 0 0, .int .i64 0, .int .i64 2]) (by simp [results, Tryz.results33, go_sem]) rfl ⟨HM2.out, _, [], rfl, rfl, Rules.nil _ _, by simp⟩
          · have hn4i : ¬ (4 : Int) < (n : Int) := by omega
            rw [if_neg (by omega)] at hrd
            simp only [Option.some.injEq, Prod.mk.injEq] at hrd
            obtain ⟨rfl, rfl, rfl⟩ := hrd
            go_wp2
            exact bodyPost_ret (v := .tuple #[u5, .int .i64 0, .int .i64 0]) (by simp [results, Tryz.results33, go_sem]) rfl ⟨HM2.out, _, prs, rfl, rfl, HRU.out, by rw [List.length_map]; omega⟩
end Go.Proofs.YtmbapmbpnnaanabGreatDoor
