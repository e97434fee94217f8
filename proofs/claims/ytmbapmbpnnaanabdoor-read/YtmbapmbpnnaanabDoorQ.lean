import Derived.Test.YtmbapmbpnnaanabDoorN
import Derived.Test.YtmbapmbpnnaanabDoorO
namespace Go.Proofs.YtmbapmbpnnaanabDoor
open Go.RowKit

theorem icells_getD (xs : List Nat) (i : Nat) (h : i < xs.length) : xs[i]? = some (xs.getD i 0) := by
  rw [List.getD_eq_getElem?_getD, List.getElem?_eq_getElem h]; rfl
theorem make_many (n : Nat) (hn : n ≤ 40000) (w : World) : (Instr.makeSlice 51 (.int .i64 (n : Int)) (.int .i64 (n : Int))).run Tryd.prog w = .ok (.slice (some ⟨w.heap.size, 0, none⟩) n n) (w.alloc (.cells (icells (List.replicate n 0)) 3)) := by
  rw [← made_icells]
  exact run_make_row' 51 3 (.int .i64 0) 8 Tryd.underlying51 Tryd.info3 rfl .i64 .i64 n (by omega) (by omega) w

/-- What a round of classes gives: the classes' slice and their number. -/
def ClPost (n lo : Nat) (w : World) (e : Ending) (w' : World) : Prop :=
  ∃ (fin : List Nat) (c : Nat) (v : Value), e = .returned (.agg #[v, .int .i64 (c : Int)]) ∧ Ints w' v fin ∧ fin.length = n ∧ Cl fin n c ∧ lo ≤ c ∧ Below w.heap.size w w'

theorem cell_alloc {w : World} {b o : Nat} {v : Value} (h : w.cell? ⟨b, o, none⟩ = some v) (x : Obj) : (w.alloc x).cell? ⟨b, o, none⟩ = some v := by
  have hb : b < w.heap.size := by
    rcases Nat.lt_or_ge b w.heap.size with h2 | h2
    · exact h2
    · simp [World.cell?, h2] at h
  unfold World.cell? at h ⊢
  rw [Below.heap_alloc _ _ _ hb]
  exact h

/-- The blocks of 'split' (S: the first). -/
structure Blks (wr : World) (S : Nat) (vo : Value) (m : Nat) (met fin : List Nat) (n c : Nat) : Prop where
  box : wr.heap[S]? = some (.cells #[vo, .int .i64 (m : Int)] 55 (0, 0))
  res : wr.heap[S + 1]? = some (.cells #[.slice none 0 0, .int .i64 0] 55 (0, 0))
  met : wr.heap[S + 1 + 1]? = some (.cells (icells met) 3 (0, 0))
  fin : wr.heap[S + 1 + 1 + 1]? = some (.cells (icells fin) 3 (0, 0))
  cur : wr.heap[S + 1 + 1 + 1 + 1]? = some (.cells #[.slice (some ⟨S + 1 + 1 + 1, 0, none⟩) n n, .int .i64 (c : Int)] 55 (0, 0))
theorem Blks.same {w w' : World} {S : Nat} {vo : Value} {m : Nat} {met fin : List Nat} {n c : Nat} (h : Blks w S vo m met fin n c) (hs : ∀ k, k < S + 5 → w'.heap[k]? = w.heap[k]?) : Blks w' S vo m met fin n c :=
  ⟨(hs _ (by omega)).trans h.box, (hs _ (by omega)).trans h.res, (hs _ (by omega)).trans h.met, (hs _ (by omega)).trans h.fin, (hs _ (by omega)).trans h.cur⟩
theorem Blks.lt {w : World} {S : Nat} {vo : Value} {m : Nat} {met fin : List Nat} {n c : Nat} (h : Blks w S vo m met fin n c) : S + 1 + 1 + 1 + 1 < w.heap.size := (Array.getElem?_eq_some_iff.1 h.cur).1
theorem Blks.alloc {w : World} {S : Nat} {vo : Value} {m : Nat} {met fin : List Nat} {n c : Nat} (h : Blks w S vo m met fin n c) (o : Obj) : Blks (w.alloc o) S vo m met fin n c :=
  h.same fun k hk => Below.heap_alloc _ _ _ (by have := h.lt; omega)
theorem Blks.drewN {w : World} {S : Nat} {vo : Value} {m : Nat} {met fin : List Nat} {n c : Nat} (h : Blks w S vo m met fin n c) (k : Nat) : Blks (w.drewN k) S vo m met fin n c := ⟨h.box, h.res, h.met, h.fin, h.cur⟩
theorem Blks.drew {w : World} {S : Nat} {vo : Value} {m : Nat} {met fin : List Nat} {n c : Nat} (h : Blks w S vo m met fin n c) : Blks w.drew S vo m met fin n c := ⟨h.box, h.res, h.met, h.fin, h.cur⟩
theorem below_dr {B : Nat} {a w : World} (h : Below B a w) : Below B a w.drew := ⟨h.os, h.tape, h.output, h.size, h.block⟩
theorem Blks.count {w : World} {S : Nat} {vo : Value} {m : Nat} {met fin : List Nat} {n c : Nat} (h : Blks w S vo m met fin n c) (d : Nat) : Blks (w.setCell ⟨S + 1 + 1 + 1 + 1, 1, none⟩ (.int .i64 (d : Int))) S vo m met fin n d :=
  ⟨blk_other h.box _ _ (by omega), blk_other h.res _ _ (by omega), blk_other h.met _ _ (by omega), blk_other h.fin _ _ (by omega), blk_set h.cur 1 _⟩
theorem Blks.meet {w : World} {S : Nat} {vo : Value} {m : Nat} {met fin : List Nat} {n c : Nat} (h : Blks w S vo m met fin n c) (p x : Nat) : Blks (w.setCell ⟨S + 1 + 1, p, none⟩ (.int .i64 (x : Int))) S vo m (met.set p x) fin n c :=
  ⟨blk_other h.box _ _ (by omega), blk_other h.res _ _ (by omega), by rw [← icells_set]; exact blk_set h.met p _, blk_other h.fin _ _ (by omega), blk_other h.cur _ _ (by omega)⟩
theorem Blks.put {w : World} {S : Nat} {vo : Value} {m : Nat} {met fin : List Nat} {n c : Nat} (h : Blks w S vo m met fin n c) (i x : Nat) : Blks (w.setCell ⟨S + 1 + 1 + 1, i, none⟩ (.int .i64 (x : Int))) S vo m met (fin.set i x) n c :=
  ⟨blk_other h.box _ _ (by omega), blk_other h.res _ _ (by omega), blk_other h.met _ _ (by omega), by rw [← icells_set]; exact blk_set h.fin i _, blk_other h.cur _ _ (by omega)⟩
theorem Blks.start (w : World) (vo : Value) (m M n : Nat) :
    Blks (((((w.alloc (.cells #[vo, .int .i64 (m : Int)] 55)).alloc (.cells #[.slice none 0 0, .int .i64 0] 55)).alloc (.cells (icells (List.replicate M 0)) 3)).alloc (.cells (icells (List.replicate n 0)) 3)).alloc (.cells #[.slice (some ⟨w.heap.size + 1 + 1 + 1, 0, none⟩) n n, .int .i64 0] 55)) w.heap.size vo m (List.replicate M 0) (List.replicate n 0) n 0 := by
  constructor
  · rw [Below.heap_alloc _ _ _ (by simp; omega), Below.heap_alloc _ _ _ (by simp; omega), Below.heap_alloc _ _ _ (by simp; omega), Below.heap_alloc _ _ _ (by simp)]; exact heap_alloc_new w _
  · rw [Below.heap_alloc _ _ _ (by simp), Below.heap_alloc _ _ _ (by simp), Below.heap_alloc _ _ _ (by simp)]; simpa using heap_alloc_new (w.alloc (.cells #[vo, .int .i64 (m : Int)] 55)) (.cells #[.slice none 0 0, .int .i64 0] 55)
  · rw [Below.heap_alloc _ _ _ (by simp), Below.heap_alloc _ _ _ (by simp)]; simpa using heap_alloc_new ((w.alloc (.cells #[vo, .int .i64 (m : Int)] 55)).alloc (.cells #[.slice none 0 0, .int .i64 0] 55)) (.cells (icells (List.replicate M 0)) 3)
  · rw [Below.heap_alloc _ _ _ (by simp)]; simpa using heap_alloc_new (((w.alloc (.cells #[vo, .int .i64 (m : Int)] 55)).alloc (.cells #[.slice none 0 0, .int .i64 0] 55)).alloc (.cells (icells (List.replicate M 0)) 3)) (.cells (icells (List.replicate n 0)) 3)
  · simpa using heap_alloc_new ((((w.alloc (.cells #[vo, .int .i64 (m : Int)] 55)).alloc (.cells #[.slice none 0 0, .int .i64 0] 55)).alloc (.cells (icells (List.replicate M 0)) 3)).alloc (.cells (icells (List.replicate n 0)) 3)) (.cells #[.slice (some ⟨w.heap.size + 1 + 1 + 1, 0, none⟩) n n, .int .i64 0] 55)

set_option maxHeartbeats 2000000 in
set_option maxRecDepth 100000 in
theorem split0_any (cl : List Nat) (rs : List R4) (m : Nat) (vo vn : Value) (w : World) (hcl : Ints w vo cl) (hrs : Nx w vn rs) (hlen : cl.length = rs.length) (h0 : 0 < rs.length) (hl : rs.length ≤ 200)
    (hC : Cl cl rs.length m) (hin : ∀ r ∈ rs, ∀ t ∈ r.all, t < rs.length) :
    Calls Tryd.prog 33 #[.agg #[vo, .int .i64 (m : Int)], vn, .int .i64 0] w fun e w' => ClPost rs.length (firsts cl rs.length) w e w' := by
  obtain ⟨g, cap, rfl, hg, hcap⟩ := hrs.form h0
  obtain ⟨g2, cap2, rfl, hg2, hcap2⟩ := hcl.form (by omega)
  obtain ⟨T, hTd⟩ : ∃ T, T = rs.map (fun r => r.a) := ⟨_, rfl⟩
  have hget : ∀ i, i < rs.length → ∃ r, rs[i]? = some r ∧ T.getD i 0 = r.a ∧ r.a < rs.length := fun i hi => by
    refine ⟨rs[i], List.getElem?_eq_getElem hi, ?_, hin _ (List.getElem_mem hi) _ (by simp [R4.all])⟩
    rw [hTd, List.getD_eq_getElem?_getD, List.getElem?_map, List.getElem?_eq_getElem hi]; rfl
  have hT : ∀ k, k < rs.length → T.getD k 0 < rs.length := fun k hk => by
    obtain ⟨r, -, e, h⟩ := hget k hk
    rw [e]; exact h
  have hfour := fun (wx : World) (hb : Below w.heap.size w wx) (i : Nat) (r : R4) (hr : rs[i]? = some r) => (hrs.below hb (Nat.le_refl _)).four i r hr
  have hone := fun (wx : World) (hb : Below w.heap.size w wx) (i : Nat) (hi : i < cl.length) => (hcl.below hb (Nat.le_refl _)).cell i _ (icells_getD cl i hi)
  obtain ⟨n, hn⟩ : ∃ n, n = rs.length := ⟨_, rfl⟩
  rw [← hn] at h0 hl hcap hC hlen hget hT ⊢
  rw [hlen] at hcap2 hone ⊢
  have hmn := hC.le
  obtain ⟨M, hM⟩ : ∃ M, M = m * m := ⟨_, rfl⟩
  have hM4 : M ≤ 40000 := by rw [hM]; exact Nat.le_trans (Nat.mul_le_mul (Nat.le_trans hmn hl) (Nat.le_trans hmn hl)) (by omega)
  have hmm : (m : Int) * (m : Int) = (M : Int) := by rw [hM]; exact (Int.natCast_mul m m).symm
  have hmk := make_many M hM4
  have hmk2 := make_many n (by omega)
  have HGET : Hid _ := hget
  have HT : Hid (∀ k, k < n → T.getD k 0 < n) := hT
  have HC : Hid (Cl cl n m) := hC
  have HM : Hid (M = m * m) := hM
  have HFOUR : Hid _ := hfour
  have HONE : Hid _ := hone
  have HLEN : Hid (cl.length = n) := hlen
  have HN : Hid (n = rs.length) := hn
  have hsn : g ≤ w.heap.size := by omega
  clear hn hget hT hC hM hfour hone hlen hTd hrs hcl hin
  go_enter Tryd.func33, Tryd.ntmps33
  go_wp2
  clear hmk hmk2 hmm
  go_loopw [24] (fun ii wr => ∃ (i c : Nat) (met fin : List Nat), i ≤ n ∧ ii = .int .i64 (i : Int) ∧ fin.length = n ∧ Sp cl T m met fin i c ∧ Blks wr w.heap.size (.slice (some ⟨g2, 0, none⟩) n cap2) m met fin n c ∧ Below w.heap.size w wr) (fun ii _ => n - (intOf ii).toNat)
  case atStart =>
    refine ⟨0, 0, List.replicate M 0, List.replicate n 0, by omega, rfl, by simp, ?_, ?_, ?_⟩
    · rw [HM.out]; exact Sp.start _ _ _ _
    · exact Blks.start w _ m M n
    · exact (((((Below.refl _ _).alloc (Nat.le_refl _) _).alloc (by simp; try omega) _).alloc (by simp; try omega) _).alloc (by simp; try omega) _).alloc (by simp; try omega) _
  case round =>
    obtain ⟨i, c, met, fin, hi, rfl, hfl, hsp, hbk, hb⟩ := hrel
    have hci := hsp.cls.le
    have hml := hsp.len
    have hS4 := hbk.lt
    have x0 := blk_cell hbk.box 0 _ rfl
    have x1 := blk_cell hbk.box 1 _ rfl
    have k0 := blk_cell hbk.cur 0 _ rfl
    have k1 := blk_cell hbk.cur 1 _ rfl
    have fk1 := blk_free hbk.cur 1
    simp only [List.getElem_toArray, List.getElem_cons_zero, List.getElem_cons_succ] at x0 x1 k0 k1
    have HSP : Hid (Sp cl T m met fin i c) := hsp
    have HBK : Hid (Blks wr w.heap.size (.slice (some ⟨g2, 0, none⟩) n cap2) m met fin n c) := hbk
    have HML : Hid (met.length = m * m) := hml
    by_cases hlt : i < n
    · obtain ⟨r, hr, hTr, hrn⟩ := HGET.out i hlt
      obtain ⟨r0, r1, r2, r3⟩ := HFOUR.out wr hb i r hr
      have ox := HONE.out wr hb i hlt
      have oy := HONE.out wr hb (T.getD i 0) (by rw [hTr]; exact hrn)
      have hpl := pr_lt HC.out HT.out hlt
      have hxl := HC.out.lt i hlt
      have hyl := HC.out.lt (T.getD i 0) (by rw [hTr]; exact hrn)
      have HPR : Hid (pr cl T m i = cl.getD i 0 * m + cl.getD (T.getD i 0) 0) := rfl
      obtain ⟨p, hp⟩ : ∃ p, p = cl.getD i 0 * m + cl.getD (T.getD i 0) 0 := ⟨_, rfl⟩
      obtain ⟨xm, hxm⟩ : ∃ xm, xm = cl.getD i 0 * m := ⟨_, rfl⟩
      rw [← hp] at HPR hpl
      rw [← HM.out] at hpl
      rw [← hxm] at hp
      rw [hTr] at oy hyl hp
      obtain ⟨x, hx⟩ : ∃ x, x = cl.getD i 0 := ⟨_, rfl⟩
      obtain ⟨y, hy⟩ : ∃ y, y = cl.getD r.a 0 := ⟨_, rfl⟩
      rw [← hx] at ox hxl hxm
      rw [← hy] at oy hyl hp
      have hxmi : (x : Int) * (m : Int) = (xm : Int) := by rw [hxm]; exact (Int.natCast_mul x m).symm
      have hpi : (xm : Int) + (y : Int) = (p : Int) := by omega
      have hxml : xm ≤ 40000 := by omega
      have mp := blk_cell hbk.met p _ (icells_get met p _ (icells_getD met p (by rw [HML.out, ← HM.out]; exact hpl)))
      have fmp := blk_free hbk.met p
      have fi := blk_cell hbk.fin i _ (icells_get fin i _ (icells_getD fin i (by omega)))
      have ffi := blk_free hbk.fin i
      obtain ⟨u, hu⟩ : ∃ u, u = met.getD p 0 := ⟨_, rfl⟩
      rw [← hu] at mp
      have HU : Hid (u = met.getD p 0) := hu
      obtain ⟨N0, N1, N2, N3, rfl⟩ : ∃ a b c d, r = R4.mk a b c d := ⟨r.a, r.b, r.c, r.d, rfl⟩
      simp only at r0 r1 r2 r3 oy hrn
      have hneG : ¬ g2 = wr.heap.size := by omega
      have hltpi : (p : Int) < (M : Int) := by omega
      clear hx hy hxm hp hu hr hTr hsp hbk hml
      have HBA : Hid (∀ o, Blks (wr.alloc o) w.heap.size (.slice (some ⟨g2, 0, none⟩) n cap2) m met fin n c) := fun o => HBK.out.alloc o
      have HBB : Hid (∀ o, Below w.heap.size w (wr.alloc o)) := fun o => hb.alloc (by omega) o
      have HNEW : Hid (∀ o, (wr.alloc o).heap[wr.heap.size]? = some o) := fun o => heap_alloc_new wr o
      have HSZ : Hid (∀ o, (wr.alloc o).heap.size = wr.heap.size + 1) := fun o => by simp
      have HOX : Hid (∀ o, (wr.alloc o).cell? ⟨g2, i, none⟩ = some (.int .i64 (x : Int))) := fun o => cell_alloc ox o
      have HOY : Hid (∀ o, (wr.alloc o).cell? ⟨g2, N0, none⟩ = some (.int .i64 (y : Int))) := fun o => cell_alloc oy o
      clear x0 x1 k0 k1 fk1 mp fmp fi ffi ox oy
      go_wp2
      generalize hwa : wr.alloc (Obj.cells #[.int .i64 (N0 : Int), .int .i64 (N1 : Int), .int .i64 (N2 : Int), .int .i64 (N3 : Int)] 36) = wa
      have hba := HBA.out (Obj.cells #[.int .i64 (N0 : Int), .int .i64 (N1 : Int), .int .i64 (N2 : Int), .int .i64 (N3 : Int)] 36)
      have hbb := HBB.out (Obj.cells #[.int .i64 (N0 : Int), .int .i64 (N1 : Int), .int .i64 (N2 : Int), .int .i64 (N3 : Int)] 36)
      have hnew := HNEW.out (Obj.cells #[.int .i64 (N0 : Int), .int .i64 (N1 : Int), .int .i64 (N2 : Int), .int .i64 (N3 : Int)] 36)
      have ox := HOX.out (Obj.cells #[.int .i64 (N0 : Int), .int .i64 (N1 : Int), .int .i64 (N2 : Int), .int .i64 (N3 : Int)] 36)
      have oy := HOY.out (Obj.cells #[.int .i64 (N0 : Int), .int .i64 (N1 : Int), .int .i64 (N2 : Int), .int .i64 (N3 : Int)] 36)
      rw [hwa] at hba hbb hnew ox oy
      have HWA : Hid (Blks wa w.heap.size (.slice (some ⟨g2, 0, none⟩) n cap2) m met fin n c ∧ Below w.heap.size w wa) := ⟨hba, hbb⟩
      have x0 := blk_cell hba.box 0 _ rfl
      have x1 := blk_cell hba.box 1 _ rfl
      have k0 := blk_cell hba.cur 0 _ rfl
      have k1 := blk_cell hba.cur 1 _ rfl
      have fk1 := blk_free hba.cur 1
      have t0 := blk_cell hnew 0 _ rfl
      simp only [List.getElem_toArray, List.getElem_cons_zero, List.getElem_cons_succ] at x0 x1 k0 k1 t0
      have mp := blk_cell hba.met p _ (icells_get met p _ (icells_getD met p (by rw [HML.out, ← HM.out]; exact hpl)))
      have fmp := blk_free hba.met p
      rw [← HU.out] at mp
      have fi := blk_cell hba.fin i _ (icells_get fin i _ (icells_getD fin i (by omega)))
      have ffi := blk_free hba.fin i
      have hpi0 : (0 : Int) ≤ (p : Int) := by omega
      have hyi : (N0 : Int) < (n : Int) := by omega
      have hii : (i : Int) < (n : Int) := by omega
      clear hwa HBA HBB HNEW HSZ HOX HOY hba hbb hnew r0 r1 r2 r3
      go_quiet (fail)
      by_cases hu0 : u = 0
      · have hu0i : ((u : Int) == 0) = true := by rw [hu0]; rfl
        have HSP2 : Hid (Sp cl T m (met.set p (c + 1)) (fin.set i (c + 1 - 1)) (i + 1) (c + 1)) := by
          have h := HSP.out.fresh (by omega) (by rw [HPR.out, HML.out, ← HM.out]; exact hpl)
          rw [HPR.out] at h
          exact h
        go_wp2
        generalize hwb : ((wa.drewN nq).setCell ⟨w.heap.size + 1 + 1 + 1 + 1, 1, none⟩ (.int .i64 ((c : Int) + 1))).setCell ⟨w.heap.size + 1 + 1, p, none⟩ (.int .i64 ((c : Int) + 1)) = wb
        have hbk : Blks wb w.heap.size (.slice (some ⟨g2, 0, none⟩) n cap2) m (met.set p (c + 1)) fin n (c + 1) := by
          rw [← hwb, show (c : Int) + 1 = ((c + 1 : Nat) : Int) by omega]
          exact ((HWA.out.1.drewN nq).count (c + 1)).meet p (c + 1)
        have hbl : Below w.heap.size w wb := by
          rw [← hwb]
          exact ((below_dN HWA.out.2 nq).setCell (p := ⟨w.heap.size + 1 + 1 + 1 + 1, 1, none⟩) (by simp; omega) _).setCell (p := ⟨w.heap.size + 1 + 1, p, none⟩) (by simp; omega) _
        clear hwb x0 x1 k0 k1 fk1 mp fmp fi ffi t0 ox oy
        have mp := blk_cell hbk.met p _ (icells_get _ p _ (icells_getD (met.set p (c + 1)) p (by simp; rw [HML.out, ← HM.out]; exact hpl)))
        rw [getD_set_eq met p (c + 1) (by rw [HML.out, ← HM.out]; exact hpl)] at mp
        obtain ⟨d, hd⟩ : ∃ d, d = c + 1 := ⟨_, rfl⟩
        rw [← hd] at mp HSP2
        have hd1 : 1 ≤ d := by omega
        have hd2 : d ≤ 300 := by omega
        rw [hd] at HSP2
        have HDD : Hid (d = c + 1) := hd
        clear hd
        have k0 := blk_cell hbk.cur 0 _ rfl
        simp only [List.getElem_toArray, List.getElem_cons_zero] at k0
        have fi := blk_cell hbk.fin i _ (icells_get fin i _ (icells_getD fin i (by omega)))
        have ffi := blk_free hbk.fin i
        have HBK2 : Hid _ := hbk
        clear hbk
        go_region
        go_wp2
        go_roundw
        case rel =>
          refine ⟨i + 1, c + 1, met.set p (c + 1), fin.set i (d - 1), by omega, by go_num, by simp [hfl], by rw [HDD.out]; exact HSP2.out, ?_, ?_⟩
          · rw [show (d : Int) - 1 = ((d - 1 : Nat) : Int) by omega]
            exact (HBK2.out.put i (d - 1)).drew
          · exact below_dr (hbl.setCell (p := ⟨w.heap.size + 1 + 1 + 1, i, none⟩) (by simp; omega) _)
        case measure => simp [intOf]; omega
      · have hu0i : ((u : Int) == 0) = false := by
          rw [beq_eq_false_iff_ne]
          omega
        have HSP2 := HSP.out.again HC.out HLEN.out HT.out hlt (by omega) (by rw [HPR.out]; exact HU.out.symm) hu0
        have hd2 := HSP2.2
        have HSP2 : Hid (Sp cl T m met (fin.set i (u - 1)) (i + 1) c) := HSP2.1
        go_wp2
        generalize hwb : wa.drewN nq = wb
        have hbk : Blks wb w.heap.size (.slice (some ⟨g2, 0, none⟩) n cap2) m met fin n c := by
          rw [← hwb]
          exact HWA.out.1.drewN nq
        have hbl : Below w.heap.size w wb := by
          rw [← hwb]
          exact below_dN HWA.out.2 nq
        clear hwb x0 x1 k0 k1 fk1 mp fmp fi ffi t0 ox oy
        have mp := blk_cell hbk.met p _ (icells_get _ p _ (icells_getD met p (by rw [HML.out, ← HM.out]; exact hpl)))
        rw [← HU.out] at mp
        have hd1 : 1 ≤ u := by omega
        have k0 := blk_cell hbk.cur 0 _ rfl
        simp only [List.getElem_toArray, List.getElem_cons_zero] at k0
        have fi := blk_cell hbk.fin i _ (icells_get fin i _ (icells_getD fin i (by omega)))
        have ffi := blk_free hbk.fin i
        have HBK2 : Hid _ := hbk
        clear hbk
        go_region
        go_wp2
        go_roundw
        case rel =>
          refine ⟨i + 1, c, met, fin.set i (u - 1), by omega, by go_num, by simp [hfl], HSP2.out, ?_, ?_⟩
          · rw [show (u : Int) - 1 = ((u - 1 : Nat) : Int) by omega]
            exact (HBK2.out.put i (u - 1)).drew
          · exact below_dr (hbl.setCell (p := ⟨w.heap.size + 1 + 1 + 1, i, none⟩) (by simp; omega) _)
        case measure => simp [intOf]; omega
    · obtain rfl : i = n := by omega
      have y0 := blk_cell hbk.res 0 _ rfl
      have y1 := blk_cell hbk.res 1 _ rfl
      have fy0 := blk_free hbk.res 0
      have fy1 := blk_free hbk.res 1
      clear hbk hsp
      go_wp2
      refine bodyPost_ret (v := .agg #[.slice (some ⟨w.heap.size + 1 + 1 + 1, 0, none⟩) i i, .int .i64 (c : Int)]) (by simp [results, Tryd.results33, go_sem, y0, y1]) rfl ?_
      have hin := Ints.of_block HBK.out.fin (by omega)
      rw [hfl] at hin
      have hbe : Below w.heap.size w ((wr.setCell ⟨w.heap.size + 1, 0, none⟩ (.slice (some ⟨w.heap.size + 1 + 1 + 1, 0, none⟩) i i)).setCell ⟨w.heap.size + 1, 1, none⟩ (.int .i64 (c : Int))) :=
        (hb.setCell (p := ⟨w.heap.size + 1, 0, none⟩) (by simp) _).setCell (p := ⟨w.heap.size + 1, 1, none⟩) (by simp) _
      refine ⟨fin, c, _, rfl, ?_, hfl, HSP.out.cls, HSP.out.lo, hbe⟩
      have h3 := blk_other (q := w.heap.size + 1) (blk_other (q := w.heap.size + 1) HBK.out.fin 0 (.slice (some ⟨w.heap.size + 1 + 1 + 1, 0, none⟩) i i) (by omega)) 1 (.int .i64 (c : Int)) (by omega)
      have hin2 := Ints.of_block h3 (by omega)
      rw [hfl] at hin2
      exact hin2

set_option maxHeartbeats 2000000 in
set_option maxRecDepth 100000 in
theorem split1_any (cl : List Nat) (rs : List R4) (m : Nat) (vo vn : Value) (w : World) (hcl : Ints w vo cl) (hrs : Nx w vn rs) (hlen : cl.length = rs.length) (h0 : 0 < rs.length) (hl : rs.length ≤ 200)
    (hC : Cl cl rs.length m) (hin : ∀ r ∈ rs, ∀ t ∈ r.all, t < rs.length) :
    Calls Tryd.prog 33 #[.agg #[vo, .int .i64 (m : Int)], vn, .int .i64 1] w fun e w' => ClPost rs.length (firsts cl rs.length) w e w' := by
  obtain ⟨g, cap, rfl, hg, hcap⟩ := hrs.form h0
  obtain ⟨g2, cap2, rfl, hg2, hcap2⟩ := hcl.form (by omega)
  obtain ⟨T, hTd⟩ : ∃ T, T = rs.map (fun r => r.b) := ⟨_, rfl⟩
  have hget : ∀ i, i < rs.length → ∃ r, rs[i]? = some r ∧ T.getD i 0 = r.b ∧ r.b < rs.length := fun i hi => by
    refine ⟨rs[i], List.getElem?_eq_getElem hi, ?_, hin _ (List.getElem_mem hi) _ (by simp [R4.all])⟩
    rw [hTd, List.getD_eq_getElem?_getD, List.getElem?_map, List.getElem?_eq_getElem hi]; rfl
  have hT : ∀ k, k < rs.length → T.getD k 0 < rs.length := fun k hk => by
    obtain ⟨r, -, e, h⟩ := hget k hk
    rw [e]; exact h
  have hfour := fun (wx : World) (hb : Below w.heap.size w wx) (i : Nat) (r : R4) (hr : rs[i]? = some r) => (hrs.below hb (Nat.le_refl _)).four i r hr
  have hone := fun (wx : World) (hb : Below w.heap.size w wx) (i : Nat) (hi : i < cl.length) => (hcl.below hb (Nat.le_refl _)).cell i _ (icells_getD cl i hi)
  obtain ⟨n, hn⟩ : ∃ n, n = rs.length := ⟨_, rfl⟩
  rw [← hn] at h0 hl hcap hC hlen hget hT ⊢
  rw [hlen] at hcap2 hone ⊢
  have hmn := hC.le
  obtain ⟨M, hM⟩ : ∃ M, M = m * m := ⟨_, rfl⟩
  have hM4 : M ≤ 40000 := by rw [hM]; exact Nat.le_trans (Nat.mul_le_mul (Nat.le_trans hmn hl) (Nat.le_trans hmn hl)) (by omega)
  have hmm : (m : Int) * (m : Int) = (M : Int) := by rw [hM]; exact (Int.natCast_mul m m).symm
  have hmk := make_many M hM4
  have hmk2 := make_many n (by omega)
  have HGET : Hid _ := hget
  have HT : Hid (∀ k, k < n → T.getD k 0 < n) := hT
  have HC : Hid (Cl cl n m) := hC
  have HM : Hid (M = m * m) := hM
  have HFOUR : Hid _ := hfour
  have HONE : Hid _ := hone
  have HLEN : Hid (cl.length = n) := hlen
  have HN : Hid (n = rs.length) := hn
  have hsn : g ≤ w.heap.size := by omega
  clear hn hget hT hC hM hfour hone hlen hTd hrs hcl hin
  go_enter Tryd.func33, Tryd.ntmps33
  go_wp2
  clear hmk hmk2 hmm
  go_loopw [24] (fun ii wr => ∃ (i c : Nat) (met fin : List Nat), i ≤ n ∧ ii = .int .i64 (i : Int) ∧ fin.length = n ∧ Sp cl T m met fin i c ∧ Blks wr w.heap.size (.slice (some ⟨g2, 0, none⟩) n cap2) m met fin n c ∧ Below w.heap.size w wr) (fun ii _ => n - (intOf ii).toNat)
  case atStart =>
    refine ⟨0, 0, List.replicate M 0, List.replicate n 0, by omega, rfl, by simp, ?_, ?_, ?_⟩
    · rw [HM.out]; exact Sp.start _ _ _ _
    · exact Blks.start w _ m M n
    · exact (((((Below.refl _ _).alloc (Nat.le_refl _) _).alloc (by simp; try omega) _).alloc (by simp; try omega) _).alloc (by simp; try omega) _).alloc (by simp; try omega) _
  case round =>
    obtain ⟨i, c, met, fin, hi, rfl, hfl, hsp, hbk, hb⟩ := hrel
    have hci := hsp.cls.le
    have hml := hsp.len
    have hS4 := hbk.lt
    have x0 := blk_cell hbk.box 0 _ rfl
    have x1 := blk_cell hbk.box 1 _ rfl
    have k0 := blk_cell hbk.cur 0 _ rfl
    have k1 := blk_cell hbk.cur 1 _ rfl
    have fk1 := blk_free hbk.cur 1
    simp only [List.getElem_toArray, List.getElem_cons_zero, List.getElem_cons_succ] at x0 x1 k0 k1
    have HSP : Hid (Sp cl T m met fin i c) := hsp
    have HBK : Hid (Blks wr w.heap.size (.slice (some ⟨g2, 0, none⟩) n cap2) m met fin n c) := hbk
    have HML : Hid (met.length = m * m) := hml
    by_cases hlt : i < n
    · obtain ⟨r, hr, hTr, hrn⟩ := HGET.out i hlt
      obtain ⟨r0, r1, r2, r3⟩ := HFOUR.out wr hb i r hr
      have ox := HONE.out wr hb i hlt
      have oy := HONE.out wr hb (T.getD i 0) (by rw [hTr]; exact hrn)
      have hpl := pr_lt HC.out HT.out hlt
      have hxl := HC.out.lt i hlt
      have hyl := HC.out.lt (T.getD i 0) (by rw [hTr]; exact hrn)
      have HPR : Hid (pr cl T m i = cl.getD i 0 * m + cl.getD (T.getD i 0) 0) := rfl
      obtain ⟨p, hp⟩ : ∃ p, p = cl.getD i 0 * m + cl.getD (T.getD i 0) 0 := ⟨_, rfl⟩
      obtain ⟨xm, hxm⟩ : ∃ xm, xm = cl.getD i 0 * m := ⟨_, rfl⟩
      rw [← hp] at HPR hpl
      rw [← HM.out] at hpl
      rw [← hxm] at hp
      rw [hTr] at oy hyl hp
      obtain ⟨x, hx⟩ : ∃ x, x = cl.getD i 0 := ⟨_, rfl⟩
      obtain ⟨y, hy⟩ : ∃ y, y = cl.getD r.b 0 := ⟨_, rfl⟩
      rw [← hx] at ox hxl hxm
      rw [← hy] at oy hyl hp
      have hxmi : (x : Int) * (m : Int) = (xm : Int) := by rw [hxm]; exact (Int.natCast_mul x m).symm
      have hpi : (xm : Int) + (y : Int) = (p : Int) := by omega
      have hxml : xm ≤ 40000 := by omega
      have mp := blk_cell hbk.met p _ (icells_get met p _ (icells_getD met p (by rw [HML.out, ← HM.out]; exact hpl)))
      have fmp := blk_free hbk.met p
      have fi := blk_cell hbk.fin i _ (icells_get fin i _ (icells_getD fin i (by omega)))
      have ffi := blk_free hbk.fin i
      obtain ⟨u, hu⟩ : ∃ u, u = met.getD p 0 := ⟨_, rfl⟩
      rw [← hu] at mp
      have HU : Hid (u = met.getD p 0) := hu
      obtain ⟨N0, N1, N2, N3, rfl⟩ : ∃ a b c d, r = R4.mk a b c d := ⟨r.a, r.b, r.c, r.d, rfl⟩
      simp only at r0 r1 r2 r3 oy hrn
      have hneG : ¬ g2 = wr.heap.size := by omega
      have hltpi : (p : Int) < (M : Int) := by omega
      clear hx hy hxm hp hu hr hTr hsp hbk hml
      have HBA : Hid (∀ o, Blks (wr.alloc o) w.heap.size (.slice (some ⟨g2, 0, none⟩) n cap2) m met fin n c) := fun o => HBK.out.alloc o
      have HBB : Hid (∀ o, Below w.heap.size w (wr.alloc o)) := fun o => hb.alloc (by omega) o
      have HNEW : Hid (∀ o, (wr.alloc o).heap[wr.heap.size]? = some o) := fun o => heap_alloc_new wr o
      have HSZ : Hid (∀ o, (wr.alloc o).heap.size = wr.heap.size + 1) := fun o => by simp
      have HOX : Hid (∀ o, (wr.alloc o).cell? ⟨g2, i, none⟩ = some (.int .i64 (x : Int))) := fun o => cell_alloc ox o
      have HOY : Hid (∀ o, (wr.alloc o).cell? ⟨g2, N1, none⟩ = some (.int .i64 (y : Int))) := fun o => cell_alloc oy o
      clear x0 x1 k0 k1 fk1 mp fmp fi ffi ox oy
      go_wp2
      generalize hwa : wr.alloc (Obj.cells #[.int .i64 (N0 : Int), .int .i64 (N1 : Int), .int .i64 (N2 : Int), .int .i64 (N3 : Int)] 36) = wa
      have hba := HBA.out (Obj.cells #[.int .i64 (N0 : Int), .int .i64 (N1 : Int), .int .i64 (N2 : Int), .int .i64 (N3 : Int)] 36)
      have hbb := HBB.out (Obj.cells #[.int .i64 (N0 : Int), .int .i64 (N1 : Int), .int .i64 (N2 : Int), .int .i64 (N3 : Int)] 36)
      have hnew := HNEW.out (Obj.cells #[.int .i64 (N0 : Int), .int .i64 (N1 : Int), .int .i64 (N2 : Int), .int .i64 (N3 : Int)] 36)
      have ox := HOX.out (Obj.cells #[.int .i64 (N0 : Int), .int .i64 (N1 : Int), .int .i64 (N2 : Int), .int .i64 (N3 : Int)] 36)
      have oy := HOY.out (Obj.cells #[.int .i64 (N0 : Int), .int .i64 (N1 : Int), .int .i64 (N2 : Int), .int .i64 (N3 : Int)] 36)
      rw [hwa] at hba hbb hnew ox oy
      have HWA : Hid (Blks wa w.heap.size (.slice (some ⟨g2, 0, none⟩) n cap2) m met fin n c ∧ Below w.heap.size w wa) := ⟨hba, hbb⟩
      have x0 := blk_cell hba.box 0 _ rfl
      have x1 := blk_cell hba.box 1 _ rfl
      have k0 := blk_cell hba.cur 0 _ rfl
      have k1 := blk_cell hba.cur 1 _ rfl
      have fk1 := blk_free hba.cur 1
      have t0 := blk_cell hnew 1 _ rfl
      simp only [List.getElem_toArray, List.getElem_cons_zero, List.getElem_cons_succ] at x0 x1 k0 k1 t0
      have mp := blk_cell hba.met p _ (icells_get met p _ (icells_getD met p (by rw [HML.out, ← HM.out]; exact hpl)))
      have fmp := blk_free hba.met p
      rw [← HU.out] at mp
      have fi := blk_cell hba.fin i _ (icells_get fin i _ (icells_getD fin i (by omega)))
      have ffi := blk_free hba.fin i
      have hpi0 : (0 : Int) ≤ (p : Int) := by omega
      have hyi : (N1 : Int) < (n : Int) := by omega
      have hii : (i : Int) < (n : Int) := by omega
      clear hwa HBA HBB HNEW HSZ HOX HOY hba hbb hnew r0 r1 r2 r3
      go_quiet (fail)
      by_cases hu0 : u = 0
      · have hu0i : ((u : Int) == 0) = true := by rw [hu0]; rfl
        have HSP2 : Hid (Sp cl T m (met.set p (c + 1)) (fin.set i (c + 1 - 1)) (i + 1) (c + 1)) := by
          have h := HSP.out.fresh (by omega) (by rw [HPR.out, HML.out, ← HM.out]; exact hpl)
          rw [HPR.out] at h
          exact h
        go_wp2
        generalize hwb : ((wa.drewN nq).setCell ⟨w.heap.size + 1 + 1 + 1 + 1, 1, none⟩ (.int .i64 ((c : Int) + 1))).setCell ⟨w.heap.size + 1 + 1, p, none⟩ (.int .i64 ((c : Int) + 1)) = wb
        have hbk : Blks wb w.heap.size (.slice (some ⟨g2, 0, none⟩) n cap2) m (met.set p (c + 1)) fin n (c + 1) := by
          rw [← hwb, show (c : Int) + 1 = ((c + 1 : Nat) : Int) by omega]
          exact ((HWA.out.1.drewN nq).count (c + 1)).meet p (c + 1)
        have hbl : Below w.heap.size w wb := by
          rw [← hwb]
          exact ((below_dN HWA.out.2 nq).setCell (p := ⟨w.heap.size + 1 + 1 + 1 + 1, 1, none⟩) (by simp; omega) _).setCell (p := ⟨w.heap.size + 1 + 1, p, none⟩) (by simp; omega) _
        clear hwb x0 x1 k0 k1 fk1 mp fmp fi ffi t0 ox oy
        have mp := blk_cell hbk.met p _ (icells_get _ p _ (icells_getD (met.set p (c + 1)) p (by simp; rw [HML.out, ← HM.out]; exact hpl)))
        rw [getD_set_eq met p (c + 1) (by rw [HML.out, ← HM.out]; exact hpl)] at mp
        obtain ⟨d, hd⟩ : ∃ d, d = c + 1 := ⟨_, rfl⟩
        rw [← hd] at mp HSP2
        have hd1 : 1 ≤ d := by omega
        have hd2 : d ≤ 300 := by omega
        rw [hd] at HSP2
        have HDD : Hid (d = c + 1) := hd
        clear hd
        have k0 := blk_cell hbk.cur 0 _ rfl
        simp only [List.getElem_toArray, List.getElem_cons_zero] at k0
        have fi := blk_cell hbk.fin i _ (icells_get fin i _ (icells_getD fin i (by omega)))
        have ffi := blk_free hbk.fin i
        have HBK2 : Hid _ := hbk
        clear hbk
        go_region
        go_wp2
        go_roundw
        case rel =>
          refine ⟨i + 1, c + 1, met.set p (c + 1), fin.set i (d - 1), by omega, by go_num, by simp [hfl], by rw [HDD.out]; exact HSP2.out, ?_, ?_⟩
          · rw [show (d : Int) - 1 = ((d - 1 : Nat) : Int) by omega]
            exact (HBK2.out.put i (d - 1)).drew
          · exact below_dr (hbl.setCell (p := ⟨w.heap.size + 1 + 1 + 1, i, none⟩) (by simp; omega) _)
        case measure => simp [intOf]; omega
      · have hu0i : ((u : Int) == 0) = false := by
          rw [beq_eq_false_iff_ne]
          omega
        have HSP2 := HSP.out.again HC.out HLEN.out HT.out hlt (by omega) (by rw [HPR.out]; exact HU.out.symm) hu0
        have hd2 := HSP2.2
        have HSP2 : Hid (Sp cl T m met (fin.set i (u - 1)) (i + 1) c) := HSP2.1
        go_wp2
        generalize hwb : wa.drewN nq = wb
        have hbk : Blks wb w.heap.size (.slice (some ⟨g2, 0, none⟩) n cap2) m met fin n c := by
          rw [← hwb]
          exact HWA.out.1.drewN nq
        have hbl : Below w.heap.size w wb := by
          rw [← hwb]
          exact below_dN HWA.out.2 nq
        clear hwb x0 x1 k0 k1 fk1 mp fmp fi ffi t0 ox oy
        have mp := blk_cell hbk.met p _ (icells_get _ p _ (icells_getD met p (by rw [HML.out, ← HM.out]; exact hpl)))
        rw [← HU.out] at mp
        have hd1 : 1 ≤ u := by omega
        have k0 := blk_cell hbk.cur 0 _ rfl
        simp only [List.getElem_toArray, List.getElem_cons_zero] at k0
        have fi := blk_cell hbk.fin i _ (icells_get fin i _ (icells_getD fin i (by omega)))
        have ffi := blk_free hbk.fin i
        have HBK2 : Hid _ := hbk
        clear hbk
        go_region
        go_wp2
        go_roundw
        case rel =>
          refine ⟨i + 1, c, met, fin.set i (u - 1), by omega, by go_num, by simp [hfl], HSP2.out, ?_, ?_⟩
          · rw [show (u : Int) - 1 = ((u - 1 : Nat) : Int) by omega]
            exact (HBK2.out.put i (u - 1)).drew
          · exact below_dr (hbl.setCell (p := ⟨w.heap.size + 1 + 1 + 1, i, none⟩) (by simp; omega) _)
        case measure => simp [intOf]; omega
    · obtain rfl : i = n := by omega
      have y0 := blk_cell hbk.res 0 _ rfl
      have y1 := blk_cell hbk.res 1 _ rfl
      have fy0 := blk_free hbk.res 0
      have fy1 := blk_free hbk.res 1
      clear hbk hsp
      go_wp2
      refine bodyPost_ret (v := .agg #[.slice (some ⟨w.heap.size + 1 + 1 + 1, 0, none⟩) i i, .int .i64 (c : Int)]) (by simp [results, Tryd.results33, go_sem, y0, y1]) rfl ?_
      have hin := Ints.of_block HBK.out.fin (by omega)
      rw [hfl] at hin
      have hbe : Below w.heap.size w ((wr.setCell ⟨w.heap.size + 1, 0, none⟩ (.slice (some ⟨w.heap.size + 1 + 1 + 1, 0, none⟩) i i)).setCell ⟨w.heap.size + 1, 1, none⟩ (.int .i64 (c : Int))) :=
        (hb.setCell (p := ⟨w.heap.size + 1, 0, none⟩) (by simp) _).setCell (p := ⟨w.heap.size + 1, 1, none⟩) (by simp) _
      refine ⟨fin, c, _, rfl, ?_, hfl, HSP.out.cls, HSP.out.lo, hbe⟩
      have h3 := blk_other (q := w.heap.size + 1) (blk_other (q := w.heap.size + 1) HBK.out.fin 0 (.slice (some ⟨w.heap.size + 1 + 1 + 1, 0, none⟩) i i) (by omega)) 1 (.int .i64 (c : Int)) (by omega)
      have hin2 := Ints.of_block h3 (by omega)
      rw [hfl] at hin2
      exact hin2

set_option maxHeartbeats 2000000 in
set_option maxRecDepth 100000 in
theorem split2_any (cl : List Nat) (rs : List R4) (m : Nat) (vo vn : Value) (w : World) (hcl : Ints w vo cl) (hrs : Nx w vn rs) (hlen : cl.length = rs.length) (h0 : 0 < rs.length) (hl : rs.length ≤ 200)
    (hC : Cl cl rs.length m) (hin : ∀ r ∈ rs, ∀ t ∈ r.all, t < rs.length) :
    Calls Tryd.prog 33 #[.agg #[vo, .int .i64 (m : Int)], vn, .int .i64 2] w fun e w' => ClPost rs.length (firsts cl rs.length) w e w' := by
  obtain ⟨g, cap, rfl, hg, hcap⟩ := hrs.form h0
  obtain ⟨g2, cap2, rfl, hg2, hcap2⟩ := hcl.form (by omega)
  obtain ⟨T, hTd⟩ : ∃ T, T = rs.map (fun r => r.c) := ⟨_, rfl⟩
  have hget : ∀ i, i < rs.length → ∃ r, rs[i]? = some r ∧ T.getD i 0 = r.c ∧ r.c < rs.length := fun i hi => by
    refine ⟨rs[i], List.getElem?_eq_getElem hi, ?_, hin _ (List.getElem_mem hi) _ (by simp [R4.all])⟩
    rw [hTd, List.getD_eq_getElem?_getD, List.getElem?_map, List.getElem?_eq_getElem hi]; rfl
  have hT : ∀ k, k < rs.length → T.getD k 0 < rs.length := fun k hk => by
    obtain ⟨r, -, e, h⟩ := hget k hk
    rw [e]; exact h
  have hfour := fun (wx : World) (hb : Below w.heap.size w wx) (i : Nat) (r : R4) (hr : rs[i]? = some r) => (hrs.below hb (Nat.le_refl _)).four i r hr
  have hone := fun (wx : World) (hb : Below w.heap.size w wx) (i : Nat) (hi : i < cl.length) => (hcl.below hb (Nat.le_refl _)).cell i _ (icells_getD cl i hi)
  obtain ⟨n, hn⟩ : ∃ n, n = rs.length := ⟨_, rfl⟩
  rw [← hn] at h0 hl hcap hC hlen hget hT ⊢
  rw [hlen] at hcap2 hone ⊢
  have hmn := hC.le
  obtain ⟨M, hM⟩ : ∃ M, M = m * m := ⟨_, rfl⟩
  have hM4 : M ≤ 40000 := by rw [hM]; exact Nat.le_trans (Nat.mul_le_mul (Nat.le_trans hmn hl) (Nat.le_trans hmn hl)) (by omega)
  have hmm : (m : Int) * (m : Int) = (M : Int) := by rw [hM]; exact (Int.natCast_mul m m).symm
  have hmk := make_many M hM4
  have hmk2 := make_many n (by omega)
  have HGET : Hid _ := hget
  have HT : Hid (∀ k, k < n → T.getD k 0 < n) := hT
  have HC : Hid (Cl cl n m) := hC
  have HM : Hid (M = m * m) := hM
  have HFOUR : Hid _ := hfour
  have HONE : Hid _ := hone
  have HLEN : Hid (cl.length = n) := hlen
  have HN : Hid (n = rs.length) := hn
  have hsn : g ≤ w.heap.size := by omega
  clear hn hget hT hC hM hfour hone hlen hTd hrs hcl hin
  go_enter Tryd.func33, Tryd.ntmps33
  go_wp2
  clear hmk hmk2 hmm
  go_loopw [24] (fun ii wr => ∃ (i c : Nat) (met fin : List Nat), i ≤ n ∧ ii = .int .i64 (i : Int) ∧ fin.length = n ∧ Sp cl T m met fin i c ∧ Blks wr w.heap.size (.slice (some ⟨g2, 0, none⟩) n cap2) m met fin n c ∧ Below w.heap.size w wr) (fun ii _ => n - (intOf ii).toNat)
  case atStart =>
    refine ⟨0, 0, List.replicate M 0, List.replicate n 0, by omega, rfl, by simp, ?_, ?_, ?_⟩
    · rw [HM.out]; exact Sp.start _ _ _ _
    · exact Blks.start w _ m M n
    · exact (((((Below.refl _ _).alloc (Nat.le_refl _) _).alloc (by simp; try omega) _).alloc (by simp; try omega) _).alloc (by simp; try omega) _).alloc (by simp; try omega) _
  case round =>
    obtain ⟨i, c, met, fin, hi, rfl, hfl, hsp, hbk, hb⟩ := hrel
    have hci := hsp.cls.le
    have hml := hsp.len
    have hS4 := hbk.lt
    have x0 := blk_cell hbk.box 0 _ rfl
    have x1 := blk_cell hbk.box 1 _ rfl
    have k0 := blk_cell hbk.cur 0 _ rfl
    have k1 := blk_cell hbk.cur 1 _ rfl
    have fk1 := blk_free hbk.cur 1
    simp only [List.getElem_toArray, List.getElem_cons_zero, List.getElem_cons_succ] at x0 x1 k0 k1
    have HSP : Hid (Sp cl T m met fin i c) := hsp
    have HBK : Hid (Blks wr w.heap.size (.slice (some ⟨g2, 0, none⟩) n cap2) m met fin n c) := hbk
    have HML : Hid (met.length = m * m) := hml
    by_cases hlt : i < n
    · obtain ⟨r, hr, hTr, hrn⟩ := HGET.out i hlt
      obtain ⟨r0, r1, r2, r3⟩ := HFOUR.out wr hb i r hr
      have ox := HONE.out wr hb i hlt
      have oy := HONE.out wr hb (T.getD i 0) (by rw [hTr]; exact hrn)
      have hpl := pr_lt HC.out HT.out hlt
      have hxl := HC.out.lt i hlt
      have hyl := HC.out.lt (T.getD i 0) (by rw [hTr]; exact hrn)
      have HPR : Hid (pr cl T m i = cl.getD i 0 * m + cl.getD (T.getD i 0) 0) := rfl
      obtain ⟨p, hp⟩ : ∃ p, p = cl.getD i 0 * m + cl.getD (T.getD i 0) 0 := ⟨_, rfl⟩
      obtain ⟨xm, hxm⟩ : ∃ xm, xm = cl.getD i 0 * m := ⟨_, rfl⟩
      rw [← hp] at HPR hpl
      rw [← HM.out] at hpl
      rw [← hxm] at hp
      rw [hTr] at oy hyl hp
      obtain ⟨x, hx⟩ : ∃ x, x = cl.getD i 0 := ⟨_, rfl⟩
      obtain ⟨y, hy⟩ : ∃ y, y = cl.getD r.c 0 := ⟨_, rfl⟩
      rw [← hx] at ox hxl hxm
      rw [← hy] at oy hyl hp
      have hxmi : (x : Int) * (m : Int) = (xm : Int) := by rw [hxm]; exact (Int.natCast_mul x m).symm
      have hpi : (xm : Int) + (y : Int) = (p : Int) := by omega
      have hxml : xm ≤ 40000 := by omega
      have mp := blk_cell hbk.met p _ (icells_get met p _ (icells_getD met p (by rw [HML.out, ← HM.out]; exact hpl)))
      have fmp := blk_free hbk.met p
      have fi := blk_cell hbk.fin i _ (icells_get fin i _ (icells_getD fin i (by omega)))
      have ffi := blk_free hbk.fin i
      obtain ⟨u, hu⟩ : ∃ u, u = met.getD p 0 := ⟨_, rfl⟩
      rw [← hu] at mp
      have HU : Hid (u = met.getD p 0) := hu
      obtain ⟨N0, N1, N2, N3, rfl⟩ : ∃ a b c d, r = R4.mk a b c d := ⟨r.a, r.b, r.c, r.d, rfl⟩
      simp only at r0 r1 r2 r3 oy hrn
      have hneG : ¬ g2 = wr.heap.size := by omega
      have hltpi : (p : Int) < (M : Int) := by omega
      clear hx hy hxm hp hu hr hTr hsp hbk hml
      have HBA : Hid (∀ o, Blks (wr.alloc o) w.heap.size (.slice (some ⟨g2, 0, none⟩) n cap2) m met fin n c) := fun o => HBK.out.alloc o
      have HBB : Hid (∀ o, Below w.heap.size w (wr.alloc o)) := fun o => hb.alloc (by omega) o
      have HNEW : Hid (∀ o, (wr.alloc o).heap[wr.heap.size]? = some o) := fun o => heap_alloc_new wr o
      have HSZ : Hid (∀ o, (wr.alloc o).heap.size = wr.heap.size + 1) := fun o => by simp
      have HOX : Hid (∀ o, (wr.alloc o).cell? ⟨g2, i, none⟩ = some (.int .i64 (x : Int))) := fun o => cell_alloc ox o
      have HOY : Hid (∀ o, (wr.alloc o).cell? ⟨g2, N2, none⟩ = some (.int .i64 (y : Int))) := fun o => cell_alloc oy o
      clear x0 x1 k0 k1 fk1 mp fmp fi ffi ox oy
      go_wp2
      generalize hwa : wr.alloc (Obj.cells #[.int .i64 (N0 : Int), .int .i64 (N1 : Int), .int .i64 (N2 : Int), .int .i64 (N3 : Int)] 36) = wa
      have hba := HBA.out (Obj.cells #[.int .i64 (N0 : Int), .int .i64 (N1 : Int), .int .i64 (N2 : Int), .int .i64 (N3 : Int)] 36)
      have hbb := HBB.out (Obj.cells #[.int .i64 (N0 : Int), .int .i64 (N1 : Int), .int .i64 (N2 : Int), .int .i64 (N3 : Int)] 36)
      have hnew := HNEW.out (Obj.cells #[.int .i64 (N0 : Int), .int .i64 (N1 : Int), .int .i64 (N2 : Int), .int .i64 (N3 : Int)] 36)
      have ox := HOX.out (Obj.cells #[.int .i64 (N0 : Int), .int .i64 (N1 : Int), .int .i64 (N2 : Int), .int .i64 (N3 : Int)] 36)
      have oy := HOY.out (Obj.cells #[.int .i64 (N0 : Int), .int .i64 (N1 : Int), .int .i64 (N2 : Int), .int .i64 (N3 : Int)] 36)
      rw [hwa] at hba hbb hnew ox oy
      have HWA : Hid (Blks wa w.heap.size (.slice (some ⟨g2, 0, none⟩) n cap2) m met fin n c ∧ Below w.heap.size w wa) := ⟨hba, hbb⟩
      have x0 := blk_cell hba.box 0 _ rfl
      have x1 := blk_cell hba.box 1 _ rfl
      have k0 := blk_cell hba.cur 0 _ rfl
      have k1 := blk_cell hba.cur 1 _ rfl
      have fk1 := blk_free hba.cur 1
      have t0 := blk_cell hnew 2 _ rfl
      simp only [List.getElem_toArray, List.getElem_cons_zero, List.getElem_cons_succ] at x0 x1 k0 k1 t0
      have mp := blk_cell hba.met p _ (icells_get met p _ (icells_getD met p (by rw [HML.out, ← HM.out]; exact hpl)))
      have fmp := blk_free hba.met p
      rw [← HU.out] at mp
      have fi := blk_cell hba.fin i _ (icells_get fin i _ (icells_getD fin i (by omega)))
      have ffi := blk_free hba.fin i
      have hpi0 : (0 : Int) ≤ (p : Int) := by omega
      have hyi : (N2 : Int) < (n : Int) := by omega
      have hii : (i : Int) < (n : Int) := by omega
      clear hwa HBA HBB HNEW HSZ HOX HOY hba hbb hnew r0 r1 r2 r3
      go_quiet (fail)
      by_cases hu0 : u = 0
      · have hu0i : ((u : Int) == 0) = true := by rw [hu0]; rfl
        have HSP2 : Hid (Sp cl T m (met.set p (c + 1)) (fin.set i (c + 1 - 1)) (i + 1) (c + 1)) := by
          have h := HSP.out.fresh (by omega) (by rw [HPR.out, HML.out, ← HM.out]; exact hpl)
          rw [HPR.out] at h
          exact h
        go_wp2
        generalize hwb : ((wa.drewN nq).setCell ⟨w.heap.size + 1 + 1 + 1 + 1, 1, none⟩ (.int .i64 ((c : Int) + 1))).setCell ⟨w.heap.size + 1 + 1, p, none⟩ (.int .i64 ((c : Int) + 1)) = wb
        have hbk : Blks wb w.heap.size (.slice (some ⟨g2, 0, none⟩) n cap2) m (met.set p (c + 1)) fin n (c + 1) := by
          rw [← hwb, show (c : Int) + 1 = ((c + 1 : Nat) : Int) by omega]
          exact ((HWA.out.1.drewN nq).count (c + 1)).meet p (c + 1)
        have hbl : Below w.heap.size w wb := by
          rw [← hwb]
          exact ((below_dN HWA.out.2 nq).setCell (p := ⟨w.heap.size + 1 + 1 + 1 + 1, 1, none⟩) (by simp; omega) _).setCell (p := ⟨w.heap.size + 1 + 1, p, none⟩) (by simp; omega) _
        clear hwb x0 x1 k0 k1 fk1 mp fmp fi ffi t0 ox oy
        have mp := blk_cell hbk.met p _ (icells_get _ p _ (icells_getD (met.set p (c + 1)) p (by simp; rw [HML.out, ← HM.out]; exact hpl)))
        rw [getD_set_eq met p (c + 1) (by rw [HML.out, ← HM.out]; exact hpl)] at mp
        obtain ⟨d, hd⟩ : ∃ d, d = c + 1 := ⟨_, rfl⟩
        rw [← hd] at mp HSP2
        have hd1 : 1 ≤ d := by omega
        have hd2 : d ≤ 300 := by omega
        rw [hd] at HSP2
        have HDD : Hid (d = c + 1) := hd
        clear hd
        have k0 := blk_cell hbk.cur 0 _ rfl
        simp only [List.getElem_toArray, List.getElem_cons_zero] at k0
        have fi := blk_cell hbk.fin i _ (icells_get fin i _ (icells_getD fin i (by omega)))
        have ffi := blk_free hbk.fin i
        have HBK2 : Hid _ := hbk
        clear hbk
        go_region
        go_wp2
        go_roundw
        case rel =>
          refine ⟨i + 1, c + 1, met.set p (c + 1), fin.set i (d - 1), by omega, by go_num, by simp [hfl], by rw [HDD.out]; exact HSP2.out, ?_, ?_⟩
          · rw [show (d : Int) - 1 = ((d - 1 : Nat) : Int) by omega]
            exact (HBK2.out.put i (d - 1)).drew
          · exact below_dr (hbl.setCell (p := ⟨w.heap.size + 1 + 1 + 1, i, none⟩) (by simp; omega) _)
        case measure => simp [intOf]; omega
      · have hu0i : ((u : Int) == 0) = false := by
          rw [beq_eq_false_iff_ne]
          omega
        have HSP2 := HSP.out.again HC.out HLEN.out HT.out hlt (by omega) (by rw [HPR.out]; exact HU.out.symm) hu0
        have hd2 := HSP2.2
        have HSP2 : Hid (Sp cl T m met (fin.set i (u - 1)) (i + 1) c) := HSP2.1
        go_wp2
        generalize hwb : wa.drewN nq = wb
        have hbk : Blks wb w.heap.size (.slice (some ⟨g2, 0, none⟩) n cap2) m met fin n c := by
          rw [← hwb]
          exact HWA.out.1.drewN nq
        have hbl : Below w.heap.size w wb := by
          rw [← hwb]
          exact below_dN HWA.out.2 nq
        clear hwb x0 x1 k0 k1 fk1 mp fmp fi ffi t0 ox oy
        have mp := blk_cell hbk.met p _ (icells_get _ p _ (icells_getD met p (by rw [HML.out, ← HM.out]; exact hpl)))
        rw [← HU.out] at mp
        have hd1 : 1 ≤ u := by omega
        have k0 := blk_cell hbk.cur 0 _ rfl
        simp only [List.getElem_toArray, List.getElem_cons_zero] at k0
        have fi := blk_cell hbk.fin i _ (icells_get fin i _ (icells_getD fin i (by omega)))
        have ffi := blk_free hbk.fin i
        have HBK2 : Hid _ := hbk
        clear hbk
        go_region
        go_wp2
        go_roundw
        case rel =>
          refine ⟨i + 1, c, met, fin.set i (u - 1), by omega, by go_num, by simp [hfl], HSP2.out, ?_, ?_⟩
          · rw [show (u : Int) - 1 = ((u - 1 : Nat) : Int) by omega]
            exact (HBK2.out.put i (u - 1)).drew
          · exact below_dr (hbl.setCell (p := ⟨w.heap.size + 1 + 1 + 1, i, none⟩) (by simp; omega) _)
        case measure => simp [intOf]; omega
    · obtain rfl : i = n := by omega
      have y0 := blk_cell hbk.res 0 _ rfl
      have y1 := blk_cell hbk.res 1 _ rfl
      have fy0 := blk_free hbk.res 0
      have fy1 := blk_free hbk.res 1
      clear hbk hsp
      go_wp2
      refine bodyPost_ret (v := .agg #[.slice (some ⟨w.heap.size + 1 + 1 + 1, 0, none⟩) i i, .int .i64 (c : Int)]) (by simp [results, Tryd.results33, go_sem, y0, y1]) rfl ?_
      have hin := Ints.of_block HBK.out.fin (by omega)
      rw [hfl] at hin
      have hbe : Below w.heap.size w ((wr.setCell ⟨w.heap.size + 1, 0, none⟩ (.slice (some ⟨w.heap.size + 1 + 1 + 1, 0, none⟩) i i)).setCell ⟨w.heap.size + 1, 1, none⟩ (.int .i64 (c : Int))) :=
        (hb.setCell (p := ⟨w.heap.size + 1, 0, none⟩) (by simp) _).setCell (p := ⟨w.heap.size + 1, 1, none⟩) (by simp) _
      refine ⟨fin, c, _, rfl, ?_, hfl, HSP.out.cls, HSP.out.lo, hbe⟩
      have h3 := blk_other (q := w.heap.size + 1) (blk_other (q := w.heap.size + 1) HBK.out.fin 0 (.slice (some ⟨w.heap.size + 1 + 1 + 1, 0, none⟩) i i) (by omega)) 1 (.int .i64 (c : Int)) (by omega)
      have hin2 := Ints.of_block h3 (by omega)
      rw [hfl] at hin2
      exact hin2

set_option maxHeartbeats 2000000 in
set_option maxRecDepth 100000 in
theorem split3_any (cl : List Nat) (rs : List R4) (m : Nat) (vo vn : Value) (w : World) (hcl : Ints w vo cl) (hrs : Nx w vn rs) (hlen : cl.length = rs.length) (h0 : 0 < rs.length) (hl : rs.length ≤ 200)
    (hC : Cl cl rs.length m) (hin : ∀ r ∈ rs, ∀ t ∈ r.all, t < rs.length) :
    Calls Tryd.prog 33 #[.agg #[vo, .int .i64 (m : Int)], vn, .int .i64 3] w fun e w' => ClPost rs.length (firsts cl rs.length) w e w' := by
  obtain ⟨g, cap, rfl, hg, hcap⟩ := hrs.form h0
  obtain ⟨g2, cap2, rfl, hg2, hcap2⟩ := hcl.form (by omega)
  obtain ⟨T, hTd⟩ : ∃ T, T = rs.map (fun r => r.d) := ⟨_, rfl⟩
  have hget : ∀ i, i < rs.length → ∃ r, rs[i]? = some r ∧ T.getD i 0 = r.d ∧ r.d < rs.length := fun i hi => by
    refine ⟨rs[i], List.getElem?_eq_getElem hi, ?_, hin _ (List.getElem_mem hi) _ (by simp [R4.all])⟩
    rw [hTd, List.getD_eq_getElem?_getD, List.getElem?_map, List.getElem?_eq_getElem hi]; rfl
  have hT : ∀ k, k < rs.length → T.getD k 0 < rs.length := fun k hk => by
    obtain ⟨r, -, e, h⟩ := hget k hk
    rw [e]; exact h
  have hfour := fun (wx : World) (hb : Below w.heap.size w wx) (i : Nat) (r : R4) (hr : rs[i]? = some r) => (hrs.below hb (Nat.le_refl _)).four i r hr
  have hone := fun (wx : World) (hb : Below w.heap.size w wx) (i : Nat) (hi : i < cl.length) => (hcl.below hb (Nat.le_refl _)).cell i _ (icells_getD cl i hi)
  obtain ⟨n, hn⟩ : ∃ n, n = rs.length := ⟨_, rfl⟩
  rw [← hn] at h0 hl hcap hC hlen hget hT ⊢
  rw [hlen] at hcap2 hone ⊢
  have hmn := hC.le
  obtain ⟨M, hM⟩ : ∃ M, M = m * m := ⟨_, rfl⟩
  have hM4 : M ≤ 40000 := by rw [hM]; exact Nat.le_trans (Nat.mul_le_mul (Nat.le_trans hmn hl) (Nat.le_trans hmn hl)) (by omega)
  have hmm : (m : Int) * (m : Int) = (M : Int) := by rw [hM]; exact (Int.natCast_mul m m).symm
  have hmk := make_many M hM4
  have hmk2 := make_many n (by omega)
  have HGET : Hid _ := hget
  have HT : Hid (∀ k, k < n → T.getD k 0 < n) := hT
  have HC : Hid (Cl cl n m) := hC
  have HM : Hid (M = m * m) := hM
  have HFOUR : Hid _ := hfour
  have HONE : Hid _ := hone
  have HLEN : Hid (cl.length = n) := hlen
  have HN : Hid (n = rs.length) := hn
  have hsn : g ≤ w.heap.size := by omega
  clear hn hget hT hC hM hfour hone hlen hTd hrs hcl hin
  go_enter Tryd.func33, Tryd.ntmps33
  go_wp2
  clear hmk hmk2 hmm
  go_loopw [24] (fun ii wr => ∃ (i c : Nat) (met fin : List Nat), i ≤ n ∧ ii = .int .i64 (i : Int) ∧ fin.length = n ∧ Sp cl T m met fin i c ∧ Blks wr w.heap.size (.slice (some ⟨g2, 0, none⟩) n cap2) m met fin n c ∧ Below w.heap.size w wr) (fun ii _ => n - (intOf ii).toNat)
  case atStart =>
    refine ⟨0, 0, List.replicate M 0, List.replicate n 0, by omega, rfl, by simp, ?_, ?_, ?_⟩
    · rw [HM.out]; exact Sp.start _ _ _ _
    · exact Blks.start w _ m M n
    · exact (((((Below.refl _ _).alloc (Nat.le_refl _) _).alloc (by simp; try omega) _).alloc (by simp; try omega) _).alloc (by simp; try omega) _).alloc (by simp; try omega) _
  case round =>
    obtain ⟨i, c, met, fin, hi, rfl, hfl, hsp, hbk, hb⟩ := hrel
    have hci := hsp.cls.le
    have hml := hsp.len
    have hS4 := hbk.lt
    have x0 := blk_cell hbk.box 0 _ rfl
    have x1 := blk_cell hbk.box 1 _ rfl
    have k0 := blk_cell hbk.cur 0 _ rfl
    have k1 := blk_cell hbk.cur 1 _ rfl
    have fk1 := blk_free hbk.cur 1
    simp only [List.getElem_toArray, List.getElem_cons_zero, List.getElem_cons_succ] at x0 x1 k0 k1
    have HSP : Hid (Sp cl T m met fin i c) := hsp
    have HBK : Hid (Blks wr w.heap.size (.slice (some ⟨g2, 0, none⟩) n cap2) m met fin n c) := hbk
    have HML : Hid (met.length = m * m) := hml
    by_cases hlt : i < n
    · obtain ⟨r, hr, hTr, hrn⟩ := HGET.out i hlt
      obtain ⟨r0, r1, r2, r3⟩ := HFOUR.out wr hb i r hr
      have ox := HONE.out wr hb i hlt
      have oy := HONE.out wr hb (T.getD i 0) (by rw [hTr]; exact hrn)
      have hpl := pr_lt HC.out HT.out hlt
      have hxl := HC.out.lt i hlt
      have hyl := HC.out.lt (T.getD i 0) (by rw [hTr]; exact hrn)
      have HPR : Hid (pr cl T m i = cl.getD i 0 * m + cl.getD (T.getD i 0) 0) := rfl
      obtain ⟨p, hp⟩ : ∃ p, p = cl.getD i 0 * m + cl.getD (T.getD i 0) 0 := ⟨_, rfl⟩
      obtain ⟨xm, hxm⟩ : ∃ xm, xm = cl.getD i 0 * m := ⟨_, rfl⟩
      rw [← hp] at HPR hpl
      rw [← HM.out] at hpl
      rw [← hxm] at hp
      rw [hTr] at oy hyl hp
      obtain ⟨x, hx⟩ : ∃ x, x = cl.getD i 0 := ⟨_, rfl⟩
      obtain ⟨y, hy⟩ : ∃ y, y = cl.getD r.d 0 := ⟨_, rfl⟩
      rw [← hx] at ox hxl hxm
      rw [← hy] at oy hyl hp
      have hxmi : (x : Int) * (m : Int) = (xm : Int) := by rw [hxm]; exact (Int.natCast_mul x m).symm
      have hpi : (xm : Int) + (y : Int) = (p : Int) := by omega
      have hxml : xm ≤ 40000 := by omega
      have mp := blk_cell hbk.met p _ (icells_get met p _ (icells_getD met p (by rw [HML.out, ← HM.out]; exact hpl)))
      have fmp := blk_free hbk.met p
      have fi := blk_cell hbk.fin i _ (icells_get fin i _ (icells_getD fin i (by omega)))
      have ffi := blk_free hbk.fin i
      obtain ⟨u, hu⟩ : ∃ u, u = met.getD p 0 := ⟨_, rfl⟩
      rw [← hu] at mp
      have HU : Hid (u = met.getD p 0) := hu
      obtain ⟨N0, N1, N2, N3, rfl⟩ : ∃ a b c d, r = R4.mk a b c d := ⟨r.a, r.b, r.c, r.d, rfl⟩
      simp only at r0 r1 r2 r3 oy hrn
      have hneG : ¬ g2 = wr.heap.size := by omega
      have hltpi : (p : Int) < (M : Int) := by omega
      clear hx hy hxm hp hu hr hTr hsp hbk hml
      have HBA : Hid (∀ o, Blks (wr.alloc o) w.heap.size (.slice (some ⟨g2, 0, none⟩) n cap2) m met fin n c) := fun o => HBK.out.alloc o
      have HBB : Hid (∀ o, Below w.heap.size w (wr.alloc o)) := fun o => hb.alloc (by omega) o
      have HNEW : Hid (∀ o, (wr.alloc o).heap[wr.heap.size]? = some o) := fun o => heap_alloc_new wr o
      have HSZ : Hid (∀ o, (wr.alloc o).heap.size = wr.heap.size + 1) := fun o => by simp
      have HOX : Hid (∀ o, (wr.alloc o).cell? ⟨g2, i, none⟩ = some (.int .i64 (x : Int))) := fun o => cell_alloc ox o
      have HOY : Hid (∀ o, (wr.alloc o).cell? ⟨g2, N3, none⟩ = some (.int .i64 (y : Int))) := fun o => cell_alloc oy o
      clear x0 x1 k0 k1 fk1 mp fmp fi ffi ox oy
      go_wp2
      generalize hwa : wr.alloc (Obj.cells #[.int .i64 (N0 : Int), .int .i64 (N1 : Int), .int .i64 (N2 : Int), .int .i64 (N3 : Int)] 36) = wa
      have hba := HBA.out (Obj.cells #[.int .i64 (N0 : Int), .int .i64 (N1 : Int), .int .i64 (N2 : Int), .int .i64 (N3 : Int)] 36)
      have hbb := HBB.out (Obj.cells #[.int .i64 (N0 : Int), .int .i64 (N1 : Int), .int .i64 (N2 : Int), .int .i64 (N3 : Int)] 36)
      have hnew := HNEW.out (Obj.cells #[.int .i64 (N0 : Int), .int .i64 (N1 : Int), .int .i64 (N2 : Int), .int .i64 (N3 : Int)] 36)
      have ox := HOX.out (Obj.cells #[.int .i64 (N0 : Int), .int .i64 (N1 : Int), .int .i64 (N2 : Int), .int .i64 (N3 : Int)] 36)
      have oy := HOY.out (Obj.cells #[.int .i64 (N0 : Int), .int .i64 (N1 : Int), .int .i64 (N2 : Int), .int .i64 (N3 : Int)] 36)
      rw [hwa] at hba hbb hnew ox oy
      have HWA : Hid (Blks wa w.heap.size (.slice (some ⟨g2, 0, none⟩) n cap2) m met fin n c ∧ Below w.heap.size w wa) := ⟨hba, hbb⟩
      have x0 := blk_cell hba.box 0 _ rfl
      have x1 := blk_cell hba.box 1 _ rfl
      have k0 := blk_cell hba.cur 0 _ rfl
      have k1 := blk_cell hba.cur 1 _ rfl
      have fk1 := blk_free hba.cur 1
      have t0 := blk_cell hnew 3 _ rfl
      simp only [List.getElem_toArray, List.getElem_cons_zero, List.getElem_cons_succ] at x0 x1 k0 k1 t0
      have mp := blk_cell hba.met p _ (icells_get met p _ (icells_getD met p (by rw [HML.out, ← HM.out]; exact hpl)))
      have fmp := blk_free hba.met p
      rw [← HU.out] at mp
      have fi := blk_cell hba.fin i _ (icells_get fin i _ (icells_getD fin i (by omega)))
      have ffi := blk_free hba.fin i
      have hpi0 : (0 : Int) ≤ (p : Int) := by omega
      have hyi : (N3 : Int) < (n : Int) := by omega
      have hii : (i : Int) < (n : Int) := by omega
      clear hwa HBA HBB HNEW HSZ HOX HOY hba hbb hnew r0 r1 r2 r3
      go_quiet (fail)
      by_cases hu0 : u = 0
      · have hu0i : ((u : Int) == 0) = true := by rw [hu0]; rfl
        have HSP2 : Hid (Sp cl T m (met.set p (c + 1)) (fin.set i (c + 1 - 1)) (i + 1) (c + 1)) := by
          have h := HSP.out.fresh (by omega) (by rw [HPR.out, HML.out, ← HM.out]; exact hpl)
          rw [HPR.out] at h
          exact h
        go_wp2
        generalize hwb : ((wa.drewN nq).setCell ⟨w.heap.size + 1 + 1 + 1 + 1, 1, none⟩ (.int .i64 ((c : Int) + 1))).setCell ⟨w.heap.size + 1 + 1, p, none⟩ (.int .i64 ((c : Int) + 1)) = wb
        have hbk : Blks wb w.heap.size (.slice (some ⟨g2, 0, none⟩) n cap2) m (met.set p (c + 1)) fin n (c + 1) := by
          rw [← hwb, show (c : Int) + 1 = ((c + 1 : Nat) : Int) by omega]
          exact ((HWA.out.1.drewN nq).count (c + 1)).meet p (c + 1)
        have hbl : Below w.heap.size w wb := by
          rw [← hwb]
          exact ((below_dN HWA.out.2 nq).setCell (p := ⟨w.heap.size + 1 + 1 + 1 + 1, 1, none⟩) (by simp; omega) _).setCell (p := ⟨w.heap.size + 1 + 1, p, none⟩) (by simp; omega) _
        clear hwb x0 x1 k0 k1 fk1 mp fmp fi ffi t0 ox oy
        have mp := blk_cell hbk.met p _ (icells_get _ p _ (icells_getD (met.set p (c + 1)) p (by simp; rw [HML.out, ← HM.out]; exact hpl)))
        rw [getD_set_eq met p (c + 1) (by rw [HML.out, ← HM.out]; exact hpl)] at mp
        obtain ⟨d, hd⟩ : ∃ d, d = c + 1 := ⟨_, rfl⟩
        rw [← hd] at mp HSP2
        have hd1 : 1 ≤ d := by omega
        have hd2 : d ≤ 300 := by omega
        rw [hd] at HSP2
        have HDD : Hid (d = c + 1) := hd
        clear hd
        have k0 := blk_cell hbk.cur 0 _ rfl
        simp only [List.getElem_toArray, List.getElem_cons_zero] at k0
        have fi := blk_cell hbk.fin i _ (icells_get fin i _ (icells_getD fin i (by omega)))
        have ffi := blk_free hbk.fin i
        have HBK2 : Hid _ := hbk
        clear hbk
        go_region
        go_wp2
        go_roundw
        case rel =>
          refine ⟨i + 1, c + 1, met.set p (c + 1), fin.set i (d - 1), by omega, by go_num, by simp [hfl], by rw [HDD.out]; exact HSP2.out, ?_, ?_⟩
          · rw [show (d : Int) - 1 = ((d - 1 : Nat) : Int) by omega]
            exact (HBK2.out.put i (d - 1)).drew
          · exact below_dr (hbl.setCell (p := ⟨w.heap.size + 1 + 1 + 1, i, none⟩) (by simp; omega) _)
        case measure => simp [intOf]; omega
      · have hu0i : ((u : Int) == 0) = false := by
          rw [beq_eq_false_iff_ne]
          omega
        have HSP2 := HSP.out.again HC.out HLEN.out HT.out hlt (by omega) (by rw [HPR.out]; exact HU.out.symm) hu0
        have hd2 := HSP2.2
        have HSP2 : Hid (Sp cl T m met (fin.set i (u - 1)) (i + 1) c) := HSP2.1
        go_wp2
        generalize hwb : wa.drewN nq = wb
        have hbk : Blks wb w.heap.size (.slice (some ⟨g2, 0, none⟩) n cap2) m met fin n c := by
          rw [← hwb]
          exact HWA.out.1.drewN nq
        have hbl : Below w.heap.size w wb := by
          rw [← hwb]
          exact below_dN HWA.out.2 nq
        clear hwb x0 x1 k0 k1 fk1 mp fmp fi ffi t0 ox oy
        have mp := blk_cell hbk.met p _ (icells_get _ p _ (icells_getD met p (by rw [HML.out, ← HM.out]; exact hpl)))
        rw [← HU.out] at mp
        have hd1 : 1 ≤ u := by omega
        have k0 := blk_cell hbk.cur 0 _ rfl
        simp only [List.getElem_toArray, List.getElem_cons_zero] at k0
        have fi := blk_cell hbk.fin i _ (icells_get fin i _ (icells_getD fin i (by omega)))
        have ffi := blk_free hbk.fin i
        have HBK2 : Hid _ := hbk
        clear hbk
        go_region
        go_wp2
        go_roundw
        case rel =>
          refine ⟨i + 1, c, met, fin.set i (u - 1), by omega, by go_num, by simp [hfl], HSP2.out, ?_, ?_⟩
          · rw [show (u : Int) - 1 = ((u - 1 : Nat) : Int) by omega]
            exact (HBK2.out.put i (u - 1)).drew
          · exact below_dr (hbl.setCell (p := ⟨w.heap.size + 1 + 1 + 1, i, none⟩) (by simp; omega) _)
        case measure => simp [intOf]; omega
    · obtain rfl : i = n := by omega
      have y0 := blk_cell hbk.res 0 _ rfl
      have y1 := blk_cell hbk.res 1 _ rfl
      have fy0 := blk_free hbk.res 0
      have fy1 := blk_free hbk.res 1
      clear hbk hsp
      go_wp2
      refine bodyPost_ret (v := .agg #[.slice (some ⟨w.heap.size + 1 + 1 + 1, 0, none⟩) i i, .int .i64 (c : Int)]) (by simp [results, Tryd.results33, go_sem, y0, y1]) rfl ?_
      have hin := Ints.of_block HBK.out.fin (by omega)
      rw [hfl] at hin
      have hbe : Below w.heap.size w ((wr.setCell ⟨w.heap.size + 1, 0, none⟩ (.slice (some ⟨w.heap.size + 1 + 1 + 1, 0, none⟩) i i)).setCell ⟨w.heap.size + 1, 1, none⟩ (.int .i64 (c : Int))) :=
        (hb.setCell (p := ⟨w.heap.size + 1, 0, none⟩) (by simp) _).setCell (p := ⟨w.heap.size + 1, 1, none⟩) (by simp) _
      refine ⟨fin, c, _, rfl, ?_, hfl, HSP.out.cls, HSP.out.lo, hbe⟩
      have h3 := blk_other (q := w.heap.size + 1) (blk_other (q := w.heap.size + 1) HBK.out.fin 0 (.slice (some ⟨w.heap.size + 1 + 1 + 1, 0, none⟩) i i) (by omega)) 1 (.int .i64 (c : Int)) (by omega)
      have hin2 := Ints.of_block h3 (by omega)
      rw [hfl] at hin2
      exact hin2
end Go.Proofs.YtmbapmbpnnaanabDoor
