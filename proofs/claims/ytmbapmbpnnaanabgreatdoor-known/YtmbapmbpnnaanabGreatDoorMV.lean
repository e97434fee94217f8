import Derived.Test.YtmbapmbpnnaanabGreatDoorMT
namespace Go.Proofs.YtmbapmbpnnaanabGreatDoor.M3
open Go.Proofs.YtmbapmbpnnaanabGreatDoor.M2
def stL (v : View) (su : Sure) (ap : Apart) (b : Bundle) : Nat → List (List UInt8) → List Nat → List Bundle → Option (List (List UInt8) × List Nat × List Bundle)
  | 0, sd, nx, met => some (sd, nx, met)
  | n + 1, sd, nx, met => match follow v su ap b (3 - n) with
    | none => none
    | some (said, nb) => stL v su ap b n (sd ++ [said]) (nx ++ [findB met nb 0]) (if findB met nb 0 = met.length then met ++ [nb] else met)
/-- some none: more than the limit -/
def statesGo (v : View) (su : Sure) (ap : Apart) (limit : Nat) : Nat → Nat → List Bundle → List ESt → Option (Option (List ESt))
  | 0, _, _, _ => none
  | f + 1, i, met, sts => match met[i]? with
    | none => some (some sts)
    | some b => if limit < met.length then some none else
      match b.held[0]?, stL v su ap b 4 [] [] met with
      | some en, some (sd, nx, met) => statesGo v su ap limit f (i + 1) met (sts ++ [⟨en, sd, nx⟩])
      | _, _ => none
def states (v : View) (limit : Nat) : Option (Option (List ESt)) :=
  match outlookM v with
  | none => none
  | some o => match startGo o.su 0 bundle0 with
    | none => none
    | some b => statesGo o.v o.su o.ap limit 1000 0 [b] []
end Go.Proofs.YtmbapmbpnnaanabGreatDoor.M3
namespace Go.Proofs.YtmbapmbpnnaanabGreatDoor
open Go.RowKit

/-- Blocks of two types alone may change. -/
def Safe (S : Nat → Prop) (w : World) (A B : Nat) : Prop := ∀ (g : Nat) (cs : Array Value) (T : Nat), w.heap[g]? = some (.cells cs T (0, 0)) → T ≠ A → T ≠ B → ¬ S g
section
variable {S : Nat → Prop} {w w' : World} {A B : Nat}
theorem Blk.safe {b : Nat} {cs : List Value} {T : Nat} (h : Blk w b cs T) (hm : Mod S w w') (hs : Safe S w A B) (h1 : T ≠ A) (h2 : T ≠ B) : Blk w' b cs T := h.mod hm (hs b _ T h h1 h2)
theorem Row.safe {α : Type} {E : Enc α} {v : Value} {xs : List α} (h : Row E w v xs) (hm : Mod S w w') (hs : Safe S w A B) (h1 : E.T ≠ A) (h2 : E.T ≠ B) : Row E w' v xs := h.mod hm (fun g hg => by
  rcases h.2 with ⟨rfl, _⟩ | ⟨g1, cap, cur, rfl, _, hh, _⟩
  · cases hg
  · have e : g1 = g := Option.some.inj hg
    subst e
    exact hs g1 cur E.T hh h1 h2)
theorem VP.safe {v : M2.View} {base : Nat} {ka kw kh kd : Value} (h : VP v base ka kw kh kd w) (hm : Mod S w w') (hs : Safe S w A B) (hA : 154 < A) (hB : 154 < B) (hA2 : A ≠ 204) (hB2 : B ≠ 204) : VP v base ka kw kh kd w' :=
  ⟨h.ok, h.kok, h.n24, h.nh, h.ah.safe hm hs (show (106 : Nat) ≠ A by omega) (show (106 : Nat) ≠ B by omega), h.wo.safe hm hs (show (9 : Nat) ≠ A by omega) (show (9 : Nat) ≠ B by omega), h.hi.safe hm hs (show (204 : Nat) ≠ A by omega) (show (204 : Nat) ≠ B by omega), h.de.safe hm hs (show (149 : Nat) ≠ A by omega) (show (149 : Nat) ≠ B by omega), h.fa, h.fw, h.fh, h.fd⟩
theorem OL.safe {v : M2.View} {su : M2.Sure} {ap : M2.Apart} {base O : Nat} {ka kw kh kd vs va : Value} (h : OL v su ap base O ka kw kh kd vs va w) (hm : Mod S w w') (hs : Safe S w A B) (hA : 154 < A) (hB : 154 < B) (hA2 : A ≠ 204) (hB2 : B ≠ 204) (hA3 : A ≠ 254) (hB3 : B ≠ 254) : OL v su ap base O ka kw kh kd vs va w' :=
  ⟨h.blk.safe hm hs (by omega) (by omega), h.vp.safe hm hs hA hB hA2 hB2, h.su.safe hm hs (show (105 : Nat) ≠ A by omega) (show (105 : Nat) ≠ B by omega), h.ap.safe hm hs (show (254 : Nat) ≠ A by omega) (show (254 : Nat) ≠ B by omega)⟩
theorem Safe.pair {α : Type} {E : Enc α} {b : Nat} {cs : List Value} {v : Value} {xs : List α} (hb : Blk w b cs A) (hr : Row E w v xs) (hE : E.T = B) : Safe (fun k => k = b ∨ v.ownBlock = some k) w A B := by
  intro g c T hg h1 h2 e
  rcases e with rfl | e
  · have hb' : w.heap[g]? = some (.cells cs.toArray A (0, 0)) := hb
    rw [hb'] at hg
    cases hg
    exact h1 rfl
  · rcases hr.2 with ⟨rfl, _⟩ | ⟨g1, cap, cur, rfl, _, hh, _⟩
    · cases e
    · have e : g1 = g := Option.some.inj e
      subst e
      rw [hh] at hg
      cases hg
      exact h2 hE
theorem Safe.one {b : Nat} {cs : List Value} (hb : Blk w b cs A) : Safe (fun k => k = b) w A A := by
  intro g c T hg h1 h2 e
  subst e
  have hb' : w.heap[g]? = some (.cells cs.toArray A (0, 0)) := hb
  rw [hb'] at hg
  cases hg
  exact h1 rfl
theorem Safe.row {α : Type} {E : Enc α} {v : Value} {xs : List α} (hr : Row E w v xs) : Safe (fun k => v.ownBlock = some k) w E.T E.T := by
  intro g c T hg h1 h2 e
  rcases hr.2 with ⟨rfl, _⟩ | ⟨g1, cap, cur, rfl, _, hh, _⟩
  · cases e
  · have e : g1 = g := Option.some.inj e
    subst e
    rw [hh] at hg
    cases hg
    exact h1 rfl
end
theorem grown_mod {w w' : World} {row : Option Nat} (h : w.grownBy w' row) : Mod (fun k => row = some k) w w' := Mod.of_grown h (fun _ e => e)

def EsE : Enc M2.ESt := ⟨165, 9, fun s => [str s.en, str (s.sd.getD 0 []), str (s.sd.getD 1 []), str (s.sd.getD 2 []), str (s.sd.getD 3 []), nat (s.nx.getD 0 0), nat (s.nx.getD 1 0), nat (s.nx.getD 2 0), nat (s.nx.getD 3 0)], fun _ => rfl⟩
theorem Tryz.info165 : (Tryz.prog.info? 165).map (fun i => (i.zero, i.size, i.bytes)) = some (some (.agg #[.string ⟨#[]⟩, .string ⟨#[]⟩, .string ⟨#[]⟩, .string ⟨#[]⟩, .string ⟨#[]⟩, .int .i64 0, .int .i64 0, .int .i64 0, .int .i64 0]), 9, 112) := by kernel_rfl
theorem es_said (en : List UInt8) (sd : List (List UInt8)) (nx : List Nat) (x : List UInt8) (l : Nat) (hl : l < 4) (hs : sd.length = l) : EsE.f ⟨en, sd ++ [x], nx⟩ = (EsE.f ⟨en, sd, nx⟩).set (1 + l) (.string ⟨x.toArray⟩) := by
  match l, hl, sd, hs with
  | 0, _, [], _ => rfl
  | 1, _, [a], _ => rfl
  | 2, _, [a, b], _ => rfl
  | 3, _, [a, b, c], _ => rfl
theorem es_next (en : List UInt8) (sd : List (List UInt8)) (nx : List Nat) (x : Nat) (l : Nat) (hl : l < 4) (hs : nx.length = l) : EsE.f ⟨en, sd, nx ++ [x]⟩ = (EsE.f ⟨en, sd, nx⟩).set (5 + l) (.int .i64 (x : Int)) := by
  match l, hl, nx, hs with
  | 0, _, [], _ => rfl
  | 1, _, [a], _ => rfl
  | 2, _, [a, b], _ => rfl
  | 3, _, [a, b, c], _ => rfl

structure SI (w : World) (v : M2.View) (su : M2.Sure) (ap : M2.Apart) (base O M : Nat) (ka kw kh kd vs va vm : Value) (met : List M2.Bundle) (vt : Value) (sts : List M2.ESt) (wr : World) : Prop where
  mt : Blk wr M [vm] 163
  met : Row BuE wr vm met
  ol : OL v su ap base O ka kw kh kd vs va wr
  sts : Row EsE wr vt sts
  md : Mod No w wr
  fm : ∀ g, vm.ownBlock = some g → w.heap.size ≤ g
  ft : ∀ g, vt.ownBlock = some g → w.heap.size ≤ g
  oM : w.heap.size ≤ M
section
variable {w : World} {v : M2.View} {su : M2.Sure} {ap : M2.Apart} {base O M : Nat} {ka kw kh kd vs va vm : Value} {met : List M2.Bundle} {vt : Value} {sts : List M2.ESt} {wr wr' : World}
theorem SI.no (h : SI w v su ap base O M ka kw kh kd vs va vm met vt sts wr) (hm : Mod No wr wr') : SI w v su ap base O M ka kw kh kd vs va vm met vt sts wr' := ⟨h.mt.mod hm (fun x => x), h.met.no hm, h.ol.no hm, h.sts.no hm, h.md.no hm, h.fm, h.ft, h.oM⟩
theorem SI.num {vm' : Value} {met' : List M2.Bundle} (h : SI w v su ap base O M ka kw kh kd vs va vm met vt sts wr) (hB : Blk wr' M [vm'] 163) (hr : Row BuE wr' vm' met') (hf : Fresh wr vm vm') (hm : Mod (fun k => k = M ∨ vm.ownBlock = some k) wr wr') : SI w v su ap base O M ka kw kh kd vs va vm' met' vt sts wr' := by
  have hs : Safe (fun k => k = M ∨ vm.ownBlock = some k) wr 163 159 := Safe.pair h.mt h.met rfl
  refine ⟨hB, hr, h.ol.safe hm hs (by decide) (by decide) (by decide) (by decide) (by decide) (by decide), h.sts.safe hm hs (by decide) (by decide), h.md.trans' hm (fun k hk e => ?_), fun g hg => ?_, h.ft, h.oM⟩
  · have := h.oM
    rcases e with e | e
    · omega
    · have := h.fm k e; omega
  · rcases hf g hg with e | e
    · exact h.fm g e
    · have := h.md.size; omega
theorem SI.side {Q : Nat} {cs : List Value} (h : SI w v su ap base O M ka kw kh kd vs va vm met vt sts wr) (hQ : Blk wr Q cs 165) (hm : Mod (fun k => k = Q) wr wr') (h0 : w.heap.size ≤ Q) (hn : vt.ownBlock ≠ some Q) : SI w v su ap base O M ka kw kh kd vs va vm met vt sts wr' := by
  have hs := Safe.one hQ
  exact ⟨h.mt.safe hm hs (by decide) (by decide), h.met.safe hm hs (by decide) (by decide), h.ol.safe hm hs (by decide) (by decide) (by decide) (by decide) (by decide) (by decide), h.sts.mod hm (fun g hg e => hn (by rw [hg, e])), h.md.trans' hm (fun k hk e => by omega), h.fm, h.ft, h.oM⟩
theorem SI.more {v2 : Value} {s2 : List M2.ESt} (h : SI w v su ap base O M ka kw kh kd vs va vm met vt sts wr) (hg : wr.grownBy wr' vt.ownBlock) (hrow : Row EsE wr' v2 s2) (hf : Fresh wr vt v2) : SI w v su ap base O M ka kw kh kd vs va vm met v2 s2 wr' := by
  have hm := grown_mod hg
  have hs : Safe (fun k => vt.ownBlock = some k) wr 165 165 := Safe.row h.sts
  refine ⟨h.mt.safe hm hs (by decide) (by decide), h.met.safe hm hs (by decide) (by decide), h.ol.safe hm hs (by decide) (by decide) (by decide) (by decide) (by decide) (by decide), hrow, h.md.trans' hm (fun k hk e => ?_), h.fm, fun g hg => ?_, h.oM⟩
  · have := h.ft k e; omega
  · rcases hf g hg with e | e
    · exact h.ft g e
    · have := h.md.size; omega
end
theorem stL_step {v : M2.View} {su : M2.Sure} {ap : M2.Apart} {b : M2.Bundle} {n : Nat} {sd : List (List UInt8)} {nx : List Nat} {met : List M2.Bundle} {R : List (List UInt8) × List Nat × List M2.Bundle} (h : M3.stL v su ap b (n + 1) sd nx met = some R) : ∃ said nb, M3.follow v su ap b (3 - n) = some (said, nb) ∧ M3.stL v su ap b n (sd ++ [said]) (nx ++ [M3.findB met nb 0]) (if M3.findB met nb 0 = met.length then met ++ [nb] else met) = some R := by
  rw [M3.stL] at h
  split at h
  · cases h
  · rename_i said nb hf
    exact ⟨said, nb, hf, h⟩
end Go.Proofs.YtmbapmbpnnaanabGreatDoor
namespace Go.Proofs.YtmbapmbpnnaanabGreatDoor
open Go.RowKit
attribute [local go_sem ↓] Go.wp_at_zero Go.wp_at_succ Tryz.load159 Tryz.store159 Tryz.alloc159 Tryz.build161
attribute [local go_sem] isRow_drew pb_eq po_eq ag_eq cellsAt_drew allAt_drew isRow_new cells_new all_new cellsAt_alloc allAt_alloc setRow_new bc_len bc_size bc_ok isRow_bc

/-- What States gives. -/
def SPost (r : Option (List M2.ESt)) (w : World) (e : Ending) (w' : World) : Prop := Mod No w w' ∧ match r with
  | none => e = .returned (.tuple #[nilS, .bool false])
  | some sts => ∃ vt, e = .returned (.tuple #[vt, .bool true]) ∧ Row EsE w' vt sts ∧ (∀ g, vt.ownBlock = some g → w.heap.size ≤ g)

set_option maxHeartbeats 1600000 in
set_option maxRecDepth 100000 in
theorem states_any' (w : World) (v : M2.View) (base : Nat) (ka kw kh kd : Value) (hv : VP v base ka kw kh kd w) (limit : Nat) (hlim : limit ≤ 1000) {r : Option (List M2.ESt)} (hM : M3.states v limit = some r) :
    Calls Tryz.prog 35 #[.agg #[ka, kw, kh, kd], .int .i64 (limit : Int)] w fun e w' => SPost r w e w' := by
  obtain ⟨o, b, ho, hb, hg⟩ : ∃ o b, M2.outlookM v = some o ∧ M2.startGo o.su 0 M2.bundle0 = some b ∧ M3.statesGo o.v o.su o.ap limit 1000 0 [b] [] = some r := by
    unfold M3.states at hM
    split at hM
    · cases hM
    · rename_i o ho
      split at hM
      · cases hM
      · rename_i b hb
        exact ⟨o, b, ho, hb, hM⟩
  obtain ⟨n, hn⟩ : ∃ n, n = v.k.ahead.length := ⟨_, rfl⟩
  have hn24 : n ≤ 24 := by rw [hn]; exact hv.n24
  have hn0 : 0 < n := by rw [hn, ← hv.nh]; exact hv.kok.pos
  obtain ⟨b1, n1, c1, e1⟩ := hv.ah.sl
  obtain ⟨b2, n2, c2, e2⟩ := hv.wo.sl
  obtain ⟨b3, n3, c3, e3⟩ := hv.hi.sl
  obtain ⟨b4, n4, c4, e4⟩ := hv.de.sl
  have HV : Hid (VP v base ka kw kh kd w) := hv
  have HE : Hid (ka = .slice b1 n1 c1 ∧ kw = .slice b2 n2 c2 ∧ kh = .slice b3 n3 c3 ∧ kd = .slice b4 n4 c4) := ⟨e1, e2, e3, e4⟩
  have HOB : Hid (M2.outlookM v = some o ∧ M2.startGo o.su 0 M2.bundle0 = some b) := ⟨ho, hb⟩
  have HG : Hid (M3.statesGo o.v o.su o.ap limit 1000 0 [b] [] = some r) := hg
  have HN : Hid (n = v.k.ahead.length) := hn
  clear hM hv ho hb hg hn
  rw [e1, e2, e3, e4]
  clear e1 e2 e3 e4
  go_enter Tryz.func35, Tryz.ntmps35
  go_wp2_with fail
  have h22 := outlook_any _ v base ka kw kh kd (HV.out.no ((Mod.refl _ _).alloc (Obj.cells #[.slice b1 n1 c1, .slice b2 n2 c2, .slice b3 n3 c3, .slice b4 n4 c4] 90))) HOB.out.1
  rw [HE.out.1, HE.out.2.1, HE.out.2.2.1, HE.out.2.2.2] at h22
  refine h22.mono ?_
  rintro e w1 ⟨m1, hov, vs, va, rfl, hv1, hs1, ha1, hS, hA⟩
  obtain ⟨gs, cs, e5, -, -⟩ := hs1.form (by rw [hS.len]; have := HN.out; omega)
  rw [hS.len, ← HN.out] at e5
  obtain ⟨ga, ca, e6, -, -⟩ := ha1.form (by rw [hA.len]; have := HN.out; omega)
  rw [hA.len, ← HN.out] at e6
  subst e5 e6
  have hm1 : Mod No w w1 := ((Mod.refl _ _).alloc _).no m1
  have HO1 : Hid (OL v o.su o.ap base w1.heap.size (.slice b1 n1 c1) (.slice b2 n2 c2) (.slice b3 n3 c3) (.slice b4 n4 c4) (.slice (some ⟨gs, 0, none⟩) n cs) (.slice (some ⟨ga, 0, none⟩) n ca) (w1.alloc (Obj.cells #[.slice b1 n1 c1, .slice b2 n2 c2, .slice b3 n3 c3, .slice b4 n4 c4, .slice (some ⟨gs, 0, none⟩) n cs, .slice (some ⟨ga, 0, none⟩) n ca] 154)) ∧ Mod No w (w1.alloc (Obj.cells #[.slice b1 n1 c1, .slice b2 n2 c2, .slice b3 n3 c3, .slice b4 n4 c4, .slice (some ⟨gs, 0, none⟩) n cs, .slice (some ⟨ga, 0, none⟩) n ca] 154))) := by
    have m2 : Mod No w1 (w1.alloc (Obj.cells #[.slice b1 n1 c1, .slice b2 n2 c2, .slice b3 n3 c3, .slice b4 n4 c4, .slice (some ⟨gs, 0, none⟩) n cs, .slice (some ⟨ga, 0, none⟩) n ca] 154)) := (Mod.refl _ _).alloc _
    exact ⟨⟨heap_alloc_new w1 _, hv1.no m2, hs1.no m2, ha1.no m2⟩, hm1.no m2⟩
  have HSA : Hid (SOk o.su n ∧ AOk o.ap n ∧ o.v = v) := ⟨by rw [HN.out]; exact hS, by rw [HN.out]; exact hA, hov⟩
  clear h22 m1 hov hv1 hs1 ha1 hS hA hm1
  go_wp2_with fail
  generalize w1.alloc (Obj.cells #[.slice b1 n1 c1, .slice b2 n2 c2, .slice b3 n3 c3, .slice b4 n4 c4, .slice (some ⟨gs, 0, none⟩) n cs, .slice (some ⟨ga, 0, none⟩) n ca] 154) = w2 at HO1 ⊢
  generalize w1.heap.size = O at HO1 ⊢
  have h23 := start_any' w2 O gs n cs _ _ _ _ _ o.su HO1.out.1.blk HO1.out.1.su HSA.out.1 hn24 HOB.out.2
  refine h23.mono ?_
  rintro e w3 ⟨rfl, m3, hbok⟩
  have HO3 : Hid (OL v o.su o.ap base O (.slice b1 n1 c1) (.slice b2 n2 c2) (.slice b3 n3 c3) (.slice b4 n4 c4) (.slice (some ⟨gs, 0, none⟩) n cs) (.slice (some ⟨ga, 0, none⟩) n ca) w3 ∧ Mod No w w3) := ⟨HO1.out.1.no m3, HO1.out.2.no m3⟩
  have HBO : Hid (BOk b) := hbok
  clear h23 m3 hbok HO1
  go_wp2_with fail
  have HI0 : Hid (SI w v o.su o.ap base O (w3.heap.size + 1) (.slice b1 n1 c1) (.slice b2 n2 c2) (.slice b3 n3 c3) (.slice b4 n4 c4) (.slice (some ⟨gs, 0, none⟩) n cs) (.slice (some ⟨ga, 0, none⟩) n ca) (.slice (some ⟨w3.heap.size, 0, none⟩) 1 1) [b] nilS [] ((w3.alloc (Obj.cells (bc b).toArray 159)).alloc (Obj.cells #[.slice (some ⟨w3.heap.size, 0, none⟩) 1 1] 163))) := by
    have m4 : Mod No w3 ((w3.alloc (Obj.cells (bc b).toArray 159)).alloc (Obj.cells #[.slice (some ⟨w3.heap.size, 0, none⟩) 1 1] 163)) := ((Mod.refl _ _).alloc _).alloc _
    have hsz := HO3.out.2.size
    refine ⟨new2_1 w3 _ _, ?_, HO3.out.1.no m4, Row.nil _ _, HO3.out.2.no m4, fun g hg => (by cases hg; exact hsz), fun g hg => (by cases hg), by omega⟩
    refine Row.of_block (E := BuE) (xs := [b]) ?_ (by simp; unfold maxLen; omega)
    have : [b].flatMap BuE.f = bc b := by simp [BuE]
    rw [this]
    exact new2_0 w3 _ _
  generalize (w3.alloc (Obj.cells (bc b).toArray 159)).alloc (Obj.cells #[.slice (some ⟨w3.heap.size, 0, none⟩) 1 1] 163) = W4 at HI0 ⊢
  generalize w3.heap.size + 1 = M at HI0 ⊢
  generalize (Value.slice (some ⟨w3.heap.size, 0, none⟩) 1 1) = vm0 at HI0
  generalize hKA : (Value.slice b1 n1 c1) = KA at HI0
  generalize hKB : (Value.slice b2 n2 c2) = KB at HI0
  generalize hKC : (Value.slice b3 n3 c3) = KC at HI0
  generalize hKD : (Value.slice b4 n4 c4) = KD at HI0
  clear hKA hKB hKC hKD HO3 HV HE HOB
  go_loopg [8, 9] 1000 (fun gh v8 v9 wr => ∃ (i : Nat) (met : List M2.Bundle) (sts : List M2.ESt) (vm : Value), v9 = .int .i64 (i : Int) ∧ (∀ x ∈ met, BOk x) ∧ met.length ≤ limit + 4 ∧ sts.length = i ∧ M3.statesGo o.v o.su o.ap limit gh i met sts = some r ∧ SI w v o.su o.ap base O M KA KB KC KD (.slice (some ⟨gs, 0, none⟩) n cs) (.slice (some ⟨ga, 0, none⟩) n ca) vm met v8 sts wr)
  case atStart => exact ⟨0, [b], [], vm0, rfl, fun x hx => (by simp at hx; rw [hx]; exact HBO.out), by simp, rfl, HG.out, HI0.out⟩
  case round =>
    clear HI0 HG HBO
    obtain ⟨i, met, sts, vm, rfl, hbs, hml, hsl, hgo, hI⟩ := hrel
    have HI : Hid (SI w v o.su o.ap base O M KA KB KC KD (.slice (some ⟨gs, 0, none⟩) n cs) (.slice (some ⟨ga, 0, none⟩) n ca) vm met u8 sts wr) := hI
    have HBS : Hid (∀ x ∈ met, BOk x) := hbs
    obtain ⟨mn, hmn⟩ : ∃ mn, mn = met.length := ⟨_, rfl⟩
    obtain ⟨am, cm, hvm, -, -⟩ := hI.met.open hmn.symm
    obtain ⟨at', ct, hvt, -, -⟩ := hI.sts.open hsl
    have m0 := hI.mt.cell 0 rfl
    rw [hvm] at m0
    match gk, hgo with
    | 0, hgo => cases hgo
    | g + 1, hgo =>
      rw [M3.statesGo] at hgo
      cases hbi : met[i]? with
      | none =>
        rw [hbi] at hgo
        have hr : some sts = r := Option.some.inj hgo
        subst hr
        have hii : ¬ (i : Int) < (mn : Int) := by have := List.getElem?_eq_none_iff.1 hbi; omega
        have HVT : Hid (u8 = .slice at' i ct) := hvt
        clear hI hbs hgo hvm hbi
        go_wp2
        refine bodyPost_ret (v := .tuple #[.slice at' i ct, .bool true]) (by simp [results, Tryz.results35, go_sem]) rfl ⟨HI.out.md, _, rfl, ?_, ?_⟩
        · have h := HI.out.sts; rw [HVT.out] at h; exact h
        · have h := HI.out.ft; rw [HVT.out] at h; exact h
      | some bi =>
        rw [hbi] at hgo
        dsimp only at hgo
        have hil : i < mn := by have := (List.getElem?_eq_some_iff.1 hbi).1; omega
        have hii : (i : Int) < (mn : Int) := by omega
        by_cases hlm : limit < met.length
        · rw [if_pos hlm] at hgo
          have hr : none = r := Option.some.inj hgo
          subst hr
          have hli : (limit : Int) < (mn : Int) := by omega
          clear hI hbs hgo hvm hbi
          go_wp2
          exact bodyPost_ret (v := .tuple #[nilS, .bool false]) (by simp [results, Tryz.results35, go_sem]) rfl ⟨HI.out.md, rfl⟩
        · rw [if_neg hlm] at hgo
          obtain ⟨en, sd', nx', met', hen, hst, hnext⟩ : ∃ en sd' nx' met', bi.held[0]? = some en ∧ M3.stL o.v o.su o.ap bi 4 [] [] met = some (sd', nx', met') ∧ M3.statesGo o.v o.su o.ap limit g (i + 1) met' (sts ++ [⟨en, sd', nx'⟩]) = some r := by
            split at hgo
            · rename_i en sd nx m2 h1 h2
              exact ⟨en, sd, nx, m2, h1, h2, hgo⟩
            · cases hgo
          have hbok := hbs bi (List.mem_of_getElem? hbi)
          obtain ⟨gm, hgm⟩ : ∃ g, am = some ⟨g, 0, none⟩ := by
            obtain ⟨g2, c2, h2, -⟩ := hI.met.form (by omega)
            rw [hvm] at h2
            injection h2 with h2 _
            exact ⟨g2, h2⟩
          subst hgm
          have hrow := hI.met
          rw [hvm] at hrow
          have q1 := cellsAt_of (hrow.range hbi)
          rw [BuE.len] at q1
          change cellsAt wr gm (i * 48) 48 = bc bi ∧ allAt wr gm (i * 48) 48 = true at q1
          obtain ⟨q1, q3⟩ := q1
          obtain ⟨EN, hEN⟩ : ∃ EN, EN = (⟨en.toArray⟩ : ByteArray) := ⟨_, rfl⟩
          have ch : (wr.alloc (Obj.cells (bc bi).toArray 159)).cell? ⟨wr.heap.size, 24, none⟩ = some (.string EN) := by rw [hEN]; exact Blk.cell (Blk.new wr (bc bi) 159) 24 (bc_held hbok hen)
          have hli : ¬ (limit : Int) < (mn : Int) := by omega
          have HST : Hid (M3.stL o.v o.su o.ap bi 4 [] [] met = some (sd', nx', met')) := hst
          have HNEXT : Hid (M3.statesGo o.v o.su o.ap limit g (i + 1) met' (sts ++ [⟨en, sd', nx'⟩]) = some r) := hnext
          have HBI : Hid (BOk bi) := hbok
          have HI1 : Hid (SI w v o.su o.ap base O M KA KB KC KD (.slice (some ⟨gs, 0, none⟩) n cs) (.slice (some ⟨ga, 0, none⟩) n ca) vm met u8 sts ((wr.alloc (Obj.cells (bc bi).toArray 159)).alloc (Obj.cells #[.string EN, .string ⟨#[]⟩, .string ⟨#[]⟩, .string ⟨#[]⟩, .string ⟨#[]⟩, .int .i64 0, .int .i64 0, .int .i64 0, .int .i64 0] 165)) ∧ Blk ((wr.alloc (Obj.cells (bc bi).toArray 159)).alloc (Obj.cells #[.string EN, .string ⟨#[]⟩, .string ⟨#[]⟩, .string ⟨#[]⟩, .string ⟨#[]⟩, .int .i64 0, .int .i64 0, .int .i64 0, .int .i64 0] 165)) wr.heap.size (bc bi) 159 ∧ Blk ((wr.alloc (Obj.cells (bc bi).toArray 159)).alloc (Obj.cells #[.string EN, .string ⟨#[]⟩, .string ⟨#[]⟩, .string ⟨#[]⟩, .string ⟨#[]⟩, .int .i64 0, .int .i64 0, .int .i64 0, .int .i64 0] 165)) (wr.heap.size + 1) (EsE.f ⟨en, [], []⟩) 165) := by
            refine ⟨hI.no (((Mod.refl _ _).alloc _).alloc _), new2_0 wr _ _, ?_⟩
            rw [hEN]
            exact new2_1 wr _ _
          have hvT : vm.ownBlock ≠ some wr.heap.size := fun e => by have := hI.met.lt e; omega
          have htQ : u8.ownBlock ≠ some (wr.heap.size + 1) := fun e => by have := hI.sts.lt e; omega
          have hQ0 : w.heap.size ≤ wr.heap.size := hI.md.size
          have HVT : Hid (u8 = .slice at' i ct ∧ sts.length = i) := ⟨hvt, hsl⟩
          have hml2 : met.length ≤ limit := by omega
          have hm00 : 0 < met.length := by omega
          clear hI hbs hgo hvm hbi hrow hst hnext hbok hen hEN HI hmn hsl hml hlm
          go_wp2_with fail
          clear q1 q3 ch m0
          generalize (wr.alloc (Obj.cells (bc bi).toArray 159)).alloc (Obj.cells #[.string EN, .string ⟨#[]⟩, .string ⟨#[]⟩, .string ⟨#[]⟩, .string ⟨#[]⟩, .int .i64 0, .int .i64 0, .int .i64 0, .int .i64 0] 165) = W5 at HI1 ⊢
          obtain ⟨Q, hQ⟩ : ∃ Q, Q = wr.heap.size + 1 := ⟨_, rfl⟩
          rw [← hQ] at HI1 htQ ⊢
          have hQw : w.heap.size ≤ Q := by omega
          clear hQ
          generalize wr.heap.size = T at HI1 hvT hQ0 ⊢
          go_loopg [41] 4 (fun gh v41 wx => ∃ (l : Nat) (sd : List (List UInt8)) (nx : List Nat) (m2 : List M2.Bundle) (vm2 : Value), l ≤ 4 ∧ gh = 4 - l ∧ v41 = .int .i64 (l : Int) ∧ sd.length = l ∧ nx.length = l ∧ (∀ x ∈ m2, BOk x) ∧ 0 < m2.length ∧ m2.length ≤ limit + l ∧ vm2.ownBlock ≠ some T ∧ M3.stL o.v o.su o.ap bi gh sd nx m2 = some (sd', nx', met') ∧ SI w v o.su o.ap base O M KA KB KC KD (.slice (some ⟨gs, 0, none⟩) n cs) (.slice (some ⟨ga, 0, none⟩) n ca) vm2 m2 u8 sts wx ∧ Blk wx T (bc bi) 159 ∧ Blk wx Q (EsE.f ⟨en, sd, nx⟩) 165)
          case atStart => exact ⟨0, [], [], met, vm, by omega, rfl, rfl, rfl, rfl, HBS.out, hm00, by omega, hvT, HST.out, HI1.out.1, HI1.out.2.1, HI1.out.2.2⟩
          case round =>
            clear HI1 HBS HST
            obtain ⟨l, sd, nx, m2, vm2, hl4, hgl, rfl, hsdl, hnxl, hbs, hm0, hml, hvT2, hst, hI, hT, hQ⟩ := hrel
            have HI : Hid (SI w v o.su o.ap base O M KA KB KC KD (.slice (some ⟨gs, 0, none⟩) n cs) (.slice (some ⟨ga, 0, none⟩) n ca) vm2 m2 u8 sts wr) := hI
            have HT : Hid (Blk wr T (bc bi) 159) := hT
            have HQ : Hid (Blk wr Q (EsE.f ⟨en, sd, nx⟩) 165) := hQ
            have HBS : Hid (∀ x ∈ m2, BOk x) := hbs
            have HL : Hid (sd.length = l ∧ nx.length = l) := ⟨hsdl, hnxl⟩
            match gk, hgl, hst with
            | 0, hgl, hst =>
              obtain rfl : l = 4 := by omega
              have HEQ : Hid (sd = sd' ∧ nx = nx' ∧ m2 = met') := by
                have h : some (sd, nx, m2) = some (sd', nx', met') := hst
                cases h; exact ⟨rfl, rfl, rfl⟩
              obtain ⟨i0, hinf, hz0, hz1, hz2⟩ := info_parts Tryz.info165
              obtain ⟨A0, A1, A2, A3, A4, A5, A6, A7, A8, hAE⟩ : ∃ A0 A1 A2 A3 A4 A5 A6 A7 A8, EsE.f ⟨en, sd, nx⟩ = [.string A0, .string A1, .string A2, .string A3, .string A4, .int .i64 A5, .int .i64 A6, .int .i64 A7, .int .i64 A8] := ⟨_, _, _, _, _, _, _, _, _, rfl⟩
              rw [hAE] at hQ
              have q0 := hQ.cell 0 rfl
              have q1 := hQ.cell 1 rfl
              have q2 := hQ.cell 2 rfl
              have q3 := hQ.cell 3 rfl
              have q4 := hQ.cell 4 rfl
              have q5 := hQ.cell 5 rfl
              have q6 := hQ.cell 6 rfl
              have q7 := hQ.cell 7 rfl
              have q8 := hQ.cell 8 rfl
              have hown : wr.ownsRow 0 165 9 (.slice at' i ct) i (sts.flatMap EsE.f) := by
                have h2 : wr.ownsRow 0 165 9 u8 sts.length (sts.flatMap EsE.f) := hI.sts
                rwa [HVT.out.2, HVT.out.1] at h2
              have h44 : ¬ ((4 : Nat) : Int) < 4 := by omega
              have HAE : Hid (EsE.f ⟨en, sd, nx⟩ = [.string A0, .string A1, .string A2, .string A3, .string A4, .int .i64 A5, .int .i64 A6, .int .i64 A7, .int .i64 A8]) := hAE
              have hi2 : i ≤ 2000 := by omega
              clear hI hT hQ hbs hst hgl hl4 hAE
              go_wp2_with (at_builtin; refine wpList_append_lies _ rfl _ _ 93 rfl 0 165 i0 _ 9 112 Tryz.underlying93 hinf hz0 hz1 hz2 rfl (by omega) (.slice at' i ct) i (sts.flatMap EsE.f) rfl (hown.alloc _) ⟨wr.heap.size, 0, none⟩ 1 1 [.string A0, .string A1, .string A2, .string A3, .string A4, .int .i64 A5, .int .i64 A6, .int .i64 A7, .int .i64 A8] rfl rfl (World.news_of_block (cs := #[.string A0, .string A1, .string A2, .string A3, .string A4, .int .i64 A5, .int .i64 A6, .int .i64 A7, .int .i64 A8]) (t := 165) (fr := (0, 0)) (heap_alloc_new wr _)) (by intro u hu; simp at hu; rcases hu with rfl | rfl | rfl | rfl | rfl | rfl | rfl | rfl | rfl <;> rfl) (by omega) (by unfold maxLen; omega) (by omega) (by simp) (wr.heap.size + 1) (by simp) ?_)
              intro gg cap2 w7 hown7 hgrow hat hltt
              have hI7 := HI.out.no ((Mod.refl _ _).alloc (Obj.cells #[.string A0, .string A1, .string A2, .string A3, .string A4, .int .i64 A5, .int .i64 A6, .int .i64 A7, .int .i64 A8] 165))
              have hr7 : Row EsE w7 (.slice (some ⟨gg, 0, none⟩) (i + 1) cap2) (sts ++ [⟨en, sd, nx⟩]) := app_row HVT.out.2 HAE.out.symm hown7
              have hf7 : Fresh (wr.alloc (Obj.cells #[.string A0, .string A1, .string A2, .string A3, .string A4, .int .i64 A5, .int .i64 A6, .int .i64 A7, .int .i64 A8] 165)) u8 (.slice (some ⟨gg, 0, none⟩) (i + 1) cap2) := app_fresh (H := wr.heap.size + 1) (by rw [HVT.out.1]; exact hat) (by simp)
              have HI8 : Hid (SI w v o.su o.ap base O M KA KB KC KD (.slice (some ⟨gs, 0, none⟩) n cs) (.slice (some ⟨ga, 0, none⟩) n ca) vm2 m2 (.slice (some ⟨gg, 0, none⟩) (i + 1) cap2) (sts ++ [⟨en, sd, nx⟩]) w7) := hI7.more (by rw [HVT.out.1]; exact hgrow) hr7 hf7
              clear hI7 hr7 hf7 hown7 hgrow hat hltt hown hinf hz0 hz1 hz2 q0 q1 q2 q3 q4 q5 q6 q7 q8 HI HT HQ
              go_wp2
              go_roundg g
              case measure => omega
              case rel => exact ⟨i + 1, m2, sts ++ [⟨en, sd, nx⟩], vm2, by go_num, HBS.out, hml, by simp [HVT.out.2], by rw [HEQ.out.1, HEQ.out.2.1, HEQ.out.2.2]; exact HNEXT.out, HI8.out⟩
            | g' + 1, hgl, hst =>
              obtain ⟨sdl, nb, hfo, hst2⟩ := stL_step hst
              obtain ⟨L, hLe⟩ : ∃ L, L = 3 - g' := ⟨_, rfl⟩
              obtain rfl : l = L := by omega
              rw [← hLe] at hfo
              have hl : l < 4 := by omega
              have h24 := follow_any wr v o.su o.ap base O KA KB KC KD gs ga n cs ca hI.ol HN.out hn0 HSA.out.1 HSA.out.2.1 bi HBI.out l hl (by rw [HSA.out.2.2] at hfo; exact hfo)
              have q1 := cellsAt_of hT.range
              rw [bc_len] at q1
              obtain ⟨q1, q3⟩ := q1
              obtain ⟨SD, hSD⟩ : ∃ S, S = (⟨sdl.toArray⟩ : ByteArray) := ⟨_, rfl⟩
              rw [← hSD] at h24
              have HSD : Hid (SD = (⟨sdl.toArray⟩ : ByteArray)) := hSD
              have HST2 : Hid (M3.stL o.v o.su o.ap bi g' (sd ++ [sdl]) (nx ++ [M3.findB m2 nb 0]) (if M3.findB m2 nb 0 = m2.length then m2 ++ [nb] else m2) = some (sd', nx', met')) := hst2
              have hli : (l : Int) < 4 := by omega
              have hTQ : T ≠ Q := hT.diff hQ (by decide)
              clear hI hT hQ hbs hst hst2 hfo hLe hSD
              go_wp2_with fail
              refine h24.mono ?_
              rintro e w5 ⟨rfl, m5, hbn⟩
              have hQ5 := HQ.out.mod m5 (fun x => x)
              have hI5 := HI.out.no m5
              have hT5 := HT.out.mod m5 (fun x => x)
              have hQ6 : Blk (w5.alloc (Obj.cells (bc nb).toArray 159)) Q (EsE.f ⟨en, sd, nx⟩) 165 := hQ5.alloc _
              have hI6 : SI w v o.su o.ap base O M KA KB KC KD (.slice (some ⟨gs, 0, none⟩) n cs) (.slice (some ⟨ga, 0, none⟩) n ca) vm2 m2 u8 sts (w5.alloc (Obj.cells (bc nb).toArray 159)) := hI5.no ((Mod.refl _ _).alloc _)
              have hT6 : Blk (w5.alloc (Obj.cells (bc nb).toArray 159)) T (bc bi) 159 := hT5.alloc _
              have hN6 : Blk (w5.alloc (Obj.cells (bc nb).toArray 159)) w5.heap.size (bc nb) 159 := Blk.new w5 (bc nb) 159
              obtain ⟨u, hu⟩ : ∃ u, (EsE.f ⟨en, sd, nx⟩)[1 + l]? = some u := ⟨(EsE.f ⟨en, sd, nx⟩)[1 + l]'(by rw [EsE.len]; show 1 + l < 9; omega), List.getElem?_eq_getElem _⟩
              have cu := hQ6.cell (1 + l) hu
              have fu := hQ6.free (1 + l)
              have hm7 : Mod (fun k => k = Q) (w5.alloc (Obj.cells (bc nb).toArray 159)) ((w5.alloc (Obj.cells (bc nb).toArray 159)).setCell ⟨Q, 1 + l, none⟩ (.string SD)) := (Mod.refl (fun k => k = Q) _).setCell (a := ⟨Q, 1 + l, none⟩) (fun _ => rfl) _
              have hQ7 : Blk ((w5.alloc (Obj.cells (bc nb).toArray 159)).setCell ⟨Q, 1 + l, none⟩ (.string SD)) Q (EsE.f ⟨en, sd ++ [sdl], nx⟩) 165 := by
                rw [es_said en sd nx sdl l hl HL.out.1, HSD.out]; exact hQ6.set (1 + l) _
              have hI7 := hI6.side hQ6 hm7 hQw htQ
              have hT7 := hT6.mod hm7 hTQ
              have hN7 := hN6.mod hm7 (fun e => hN6.diff hQ6 (by decide) e)
              have q5 := cellsAt_of hN7.range
              rw [bc_len] at q5
              obtain ⟨q5, q6⟩ := q5
              have hbz := HBS.out
              have h25 := numberB_any _ M vm2 m2 nb hI7.mt hI7.met hbz hbn hm0 (by omega)
              have hvN : vm2.ownBlock ≠ some w5.heap.size := fun e => by have := hI5.met.lt e; omega
              have HX7 : Hid (Blk ((w5.alloc (Obj.cells (bc nb).toArray 159)).setCell ⟨Q, 1 + l, none⟩ (.string SD)) Q (EsE.f ⟨en, sd ++ [sdl], nx⟩) 165 ∧ SI w v o.su o.ap base O M KA KB KC KD (.slice (some ⟨gs, 0, none⟩) n cs) (.slice (some ⟨ga, 0, none⟩) n ca) vm2 m2 u8 sts ((w5.alloc (Obj.cells (bc nb).toArray 159)).setCell ⟨Q, 1 + l, none⟩ (.string SD)) ∧ Blk ((w5.alloc (Obj.cells (bc nb).toArray 159)).setCell ⟨Q, 1 + l, none⟩ (.string SD)) T (bc bi) 159 ∧ BOk nb) := ⟨hQ7, hI7, hT7, hbn⟩
              clear h24 m5 HQ HI HT hQ5 hI5 hT5 hQ6 hI6 hT6 hN6 hu hm7 hQ7 hI7 hT7 hN7 hbz hbn q1 q3
              go_wp2_with fail
              refine h25.mono ?_
              rintro e w8 ⟨rfl, vm3, hB8, hr8, hf8, hm8⟩
              have hI8 := HX7.out.2.1.num hB8 hr8 hf8 hm8
              have hQ8 : Blk w8 Q (EsE.f ⟨en, sd ++ [sdl], nx⟩) 165 := HX7.out.1.safe hm8 (Safe.pair HX7.out.2.1.mt HX7.out.2.1.met rfl) (by decide) (by decide)
              have hT8 : Blk w8 T (bc bi) 159 := HX7.out.2.2.1.mod hm8 (by
                rintro (e | e)
                · exact HX7.out.2.2.1.diff HX7.out.2.1.mt (by decide) e
                · exact hvT2 e)
              have hvT3 : vm3.ownBlock ≠ some T := fun e => by
                rcases hf8 T e with h | h
                · exact hvT2 h
                · have := HX7.out.2.2.1.lt; omega
              obtain ⟨F, hF⟩ : ∃ F, F = M3.findB m2 nb 0 := ⟨_, rfl⟩
              obtain ⟨m3, hm3⟩ : ∃ m3, m3 = if F = m2.length then m2 ++ [nb] else m2 := ⟨_, rfl⟩
              rw [← hF, ← hm3] at hI8
              rw [← hF] at hr8
              have HST3 : Hid (M3.stL o.v o.su o.ap bi g' (sd ++ [sdl]) (nx ++ [F]) m3 = some (sd', nx', met')) := by
                have h := HST2.out
                rw [← hF, ← hm3] at h
                exact h
              have HM3 : Hid ((∀ x ∈ m3, BOk x) ∧ 0 < m3.length ∧ m3.length ≤ limit + (l + 1)) := by
                rw [hm3]
                split
                · refine ⟨fun x hx => ?_, by simp, by simp; omega⟩
                  rcases List.mem_append.1 hx with h | h
                  · exact HBS.out x h
                  · rw [List.mem_singleton.1 h]; exact HX7.out.2.2.2
                · exact ⟨HBS.out, hm0, by omega⟩
              rw [← hF]
              obtain ⟨u2, hu2⟩ : ∃ u, (EsE.f ⟨en, sd ++ [sdl], nx⟩)[5 + l]? = some u := ⟨(EsE.f ⟨en, sd ++ [sdl], nx⟩)[5 + l]'(by rw [EsE.len]; show 5 + l < 9; omega), List.getElem?_eq_getElem _⟩
              have cu2 := hQ8.cell (5 + l) hu2
              have fu2 := hQ8.free (5 + l)
              have hm9 : Mod (fun k => k = Q) w8 (w8.setCell ⟨Q, 5 + l, none⟩ (.int .i64 (F : Int))) := (Mod.refl (fun k => k = Q) _).setCell (a := ⟨Q, 5 + l, none⟩) (fun _ => rfl) _
              have HQ9 : Hid (Blk (w8.setCell ⟨Q, 5 + l, none⟩ (.int .i64 (F : Int))) Q (EsE.f ⟨en, sd ++ [sdl], nx ++ [F]⟩) 165) := by
                show Blk (w8.setCell ⟨Q, 5 + l, none⟩ (.int .i64 (F : Int))) Q (EsE.f ⟨en, sd ++ [sdl], nx ++ [F]⟩) 165
                rw [es_next en (sd ++ [sdl]) nx F l hl HL.out.2]; exact hQ8.set (5 + l) _
              have HI9 : Hid (SI w v o.su o.ap base O M KA KB KC KD (.slice (some ⟨gs, 0, none⟩) n cs) (.slice (some ⟨ga, 0, none⟩) n ca) vm3 m3 u8 sts (w8.setCell ⟨Q, 5 + l, none⟩ (.int .i64 (F : Int))) ∧ Blk (w8.setCell ⟨Q, 5 + l, none⟩ (.int .i64 (F : Int))) T (bc bi) 159) := ⟨hI8.side hQ8 hm9 hQw htQ, hT8.mod hm9 hTQ⟩
              clear h25 hB8 hr8 hf8 hm8 hI8 hQ8 hT8 hF hm3 hu2 hm9 HX7 HST2 q5 q6 cu fu
              go_wp2
              go_roundg g'
              case measure => omega
              case rel => exact ⟨l + 1, _, _, m3, vm3, by omega, by omega, by go_num, by simp [HL.out.1], by simp [HL.out.2], HM3.out.1, HM3.out.2.1, HM3.out.2.2, hvT3, HST3.out, HI9.out.1, HI9.out.2, HQ9.out⟩
end Go.Proofs.YtmbapmbpnnaanabGreatDoor
