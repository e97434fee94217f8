import Derived.Test.YtmbapmbpnnaanabGreatDoorKA
import Derived.Test.YtmbapmbpnnaanabGreatDoorKD
/- What Compile does behind the rules, as plain functions on lists: 'none' where fuel or an index fails. -/
namespace Go.Proofs.YtmbapmbpnnaanabGreatDoor.M2
open Go.Proofs.YtmbapmbpnnaanabGreatDoor.Mir (By R4 Place Piece Rule bit has num isL isS common none4 lim ok fits)

/-! nets, walked along -/
def hitN (ps : List Mir.Place) : Nat := bit ps.length
/-- The places behind a letter; none: a hit. -/
def stepGo (l st last : Nat) : List Mir.Place → Nat → Nat → Option Nat
  | [], _, nx => some nx
  | p :: ps, i, nx => if !has st i || !(p.t.getD l false) then stepGo l st last ps (i + 1) nx
    else if has last i then none else stepGo l st last ps (i + 1) (nx ||| p.n)
def orHit (h : Nat) : Option Nat → Nat
  | none => h
  | some x => x
def stepN (ps : List Mir.Place) (wh : Piece) (st l : Nat) : Nat := if st = hitN ps then st else orHit (hitN ps) (stepGo l st wh.l ps 0 0)

/-! automata -/
structure Auto where
  nx : List R4
  hit : List Bool
structure Meet where
  met : List Nat
  nums : List Nat
def numberM (m : Meet) (x : Nat) : Option (Nat × Meet) :=
  match m.nums[x]? with
  | none => none
  | some 0 => some (m.met.length, ⟨m.met ++ [x], m.nums.set x (m.met.length + 1)⟩)
  | some (v + 1) => some (v, m)
def four (f : Nat → Meet → Option (Nat × Meet)) (m : Meet) : Option (R4 × Meet) :=
  match f 0 m with
  | none => none
  | some (a, m) => match f 1 m with
    | none => none
    | some (b, m) => match f 2 m with
      | none => none
      | some (c, m) => match f 3 m with
        | none => none
        | some (d, m) => some (⟨a, b, c, d⟩, m)
def walkM (ps : List Mir.Place) (wh : Piece) : Nat → Nat → Meet → Auto → Option Auto
  | 0, _, _, _ => none
  | f + 1, i, m, a => match m.met[i]? with
    | none => some a
    | some st => match four (fun l m => numberM m (stepN ps wh st l)) m with
      | none => none
      | some (r, m) => walkM ps wh f (i + 1) m ⟨a.nx ++ [r], a.hit ++ [decide (st = hitN ps)]⟩
def walk (r : Rule) : Option Auto :=
  if 18 < r.ps.length then none else
  match numberM ⟨[], List.replicate (hitN r.ps + 1) 0⟩ (if r.wh.e then hitN r.ps else r.wh.f) with
  | none => none
  | some (_, m) => walkM r.ps r.wh (hitN r.ps + 2) 0 m ⟨[], []⟩
def byHitGo (h0 : Bool) : List Bool → List Nat × Nat
  | [] => ([], 1)
  | h :: hs => let r := byHitGo h0 hs; if h = h0 then (0 :: r.1, r.2) else (1 :: r.1, 2)
def byHit (a : Auto) : List Nat × Nat := byHitGo (a.hit.getD 0 false) a.hit

/-! classes -/
def splitGo (of : List Nat) (m : Nat) : List Nat → List Nat → List Nat → List Nat → Nat → Option (List Nat × Nat)
  | x :: xs, t :: ts, met, fin, c => match of[t]? with
    | none => none
    | some y => match met[x * m + y]? with
      | none => none
      | some 0 => splitGo of m xs ts (met.set (x * m + y) (c + 1)) (fin ++ [c]) (c + 1)
      | some (u + 1) => splitGo of m xs ts met (fin ++ [u]) c
  | [], [], _, fin, c => some (fin, c)
  | _, _, _, _, _ => none
def splitM (c : List Nat × Nat) (ts : List Nat) : Option (List Nat × Nat) := splitGo c.1 c.2 c.1 ts (List.replicate (c.2 * c.2) 0) [] 0
def lettersM (nx : List R4) (most : Nat) : Nat → List Nat × Nat → Option (List Nat × Nat)
  | 0, c => some c
  | f + 1, c => if most < c.2 then some c else
    match splitM c (nx.map fun r => (r.get (3 - f)).getD 0) with
    | none => none
    | some c => lettersM nx most f c
def refineM (nx : List R4) (most : Nat) : Nat → List Nat × Nat → Option (List Nat × Nat)
  | 0, _ => none
  | f + 1, c => if most < c.2 then some c else
    match lettersM nx most 4 c with
    | none => none
    | some c' => if c'.2 = c.2 then some c' else refineM nx most f c'
def togGo (of : List Nat) : List Nat → List R4 → List Bool → Auto → Option Auto
  | x :: xs, r :: rs, h :: hs, a => if x < a.nx.length then togGo of xs rs hs a else
    match of[r.a]?, of[r.b]?, of[r.c]?, of[r.d]? with
    | some p, some q, some u, some v => togGo of xs rs hs ⟨a.nx ++ [⟨p, q, u, v⟩], a.hit ++ [h]⟩
    | _, _, _, _ => none
  | [], _, _, a => some a
  | _, _, _, _ => none
/-- some none: too many classes -/
def leastM (r : Rule) : Option (Option Auto) :=
  match walk r with
  | none => none
  | some a => match refineM a.nx 60 100 (byHit a) with
    | none => none
    | some c => if 60 < c.2 then some none else (togGo c.1 c.1 a.nx a.hit ⟨[], []⟩).map some
def addA (a b : Auto) : Auto := let n := a.nx.length; ⟨a.nx ++ b.nx.map fun r => ⟨r.a + n, r.b + n, r.c + n, r.d + n⟩, a.hit ++ b.hit⟩

/-! kinds -/
structure Kinds where
  ahead : List R4
  words : List By
  hits : List (List Bool)
def pad60 (l : List Bool) : List Bool := (l ++ List.replicate 60 false).take 60
def aheadGo (h : List Bool) (l : Nat) : List R4 → Nat → Option (List Bool)
  | _, 0 => some []
  | [], n + 1 => (aheadGo h l [] n).map (false :: ·)
  | r :: rs, n + 1 => match r.get l with
    | none => none
    | some t => match h[t]? with
      | none => none
      | some b => (aheadGo h l rs n).map (b :: ·)
def find (hs : List (List Bool)) (h : List Bool) : Nat → Nat
  | i => match hs with
    | [] => i
    | x :: xs => if x = h then i else find xs h (i + 1)
def letterOf (l : Nat) : By := [UInt8.ofNat (97 + l)]
def kindL (a : Auto) (i l : Nat) (k : Kinds) : Option (Nat × Kinds) :=
  match k.hits[i]? with
  | none => none
  | some h => match aheadGo h l a.nx 60 with
    | none => none
    | some h' =>
      let n := find k.hits h' 0
      let hits := if n = k.hits.length then k.hits ++ [h'] else k.hits
      if n = k.words.length then
        match k.words[i]? with
        | none => none
        | some w => some (n, ⟨k.ahead, k.words ++ [letterOf l ++ w], hits⟩)
      else some (n, ⟨k.ahead, k.words, hits⟩)
def kindsGo (a : Auto) : Nat → Nat → Kinds → Option (Option Kinds)
  | 0, _, _ => none
  | f + 1, i, k => if k.hits.length ≤ i then some (some k) else
    match kindL a i 0 k with
    | none => none
    | some (p, k) => match kindL a i 1 k with
      | none => none
      | some (q, k) => match kindL a i 2 k with
        | none => none
        | some (u, k) => match kindL a i 3 k with
          | none => none
          | some (v, k) => if 24 < k.hits.length then some none else kindsGo a f (i + 1) { k with ahead := k.ahead ++ [⟨p, q, u, v⟩] }
def kindsM (a : Auto) : Option (Option Kinds) := kindsGo a 30 0 ⟨[], [[]], [pad60 a.hit]⟩

/-! foresee -/
structure View where
  k : Kinds
  deeds : List (Nat × By)
def isHitM (k : Kinds) (kind st : Nat) : Bool := (k.hits.getD kind []).getD st false
def chooseGo (k : Kinds) (kind : Nat) : List Rule → List Nat → Nat × By → Option (Nat × By)
  | r :: rs, s :: ss, d => chooseGo k kind rs ss (if isHitM k kind s && decide (d.1 < r.fr.length) then (r.fr.length, r.tt) else d)
  | [], _, d => some d
  | _, _, _ => none
def deedsGo (rs : List Rule) (ss : List Nat) (k : Kinds) : Nat → Nat → Option (List (Nat × By))
  | 0, _ => some []
  | n + 1, i => match chooseGo k i rs ss (0, []) with
    | none => none
    | some d => (deedsGo rs ss k n (i + 1)).map (d :: ·)
def vstep (v : View) (kind tc l : Nat) : By × Nat :=
  match v.deeds[kind]? with
  | none => ([], 0)
  | some d => if 4 ≤ l then ([], 0) else if 0 < tc then ([], tc - 1) else if 0 < d.1 then (d.2, d.1 - 1) else (letterOf l, 0)
def alongM (v : View) : By → Nat → Option (List Nat × Nat)
  | [], b => some ([], b)
  | c :: cs, b => match alongM v cs b with
    | none => none
    | some (ks, b') => match v.k.ahead[b']? with
      | none => none
      | some r => match r.get (num c) with
        | none => none
        | some k => some (k :: ks, k)
def runGo (v : View) : By → List Nat → By → Nat → By × Nat
  | c :: cs, k :: ks, acc, tc => let s := vstep v k tc (num c); runGo v cs ks (acc ++ s.1) s.2
  | _, _, acc, tc => (acc, tc)
def vrun (v : View) (w : By) (behind tc : Nat) : Option (By × Nat) :=
  if v.k.ahead.length ≤ behind then some ([], tc) else
  match alongM v w behind with
  | none => none
  | some (ks, _) => some (runGo v w ks [] tc)

/-! early -/
abbrev Sure := List (List By)
abbrev Apart := List (List (List Bool))
def sureOf (v : View) (w : By) : Option (List By) :=
  match vrun v w 0 0, vrun v w 0 1, vrun v w 0 2, vrun v w 0 3 with
  | some a, some b, some c, some d => some [a.1, b.1, c.1, d.1]
  | _, _, _, _ => none
def sure0 (v : View) : List By → Option Sure
  | [] => some []
  | w :: ws => match sureOf v w with
    | none => none
    | some x => (sure0 v ws).map (x :: ·)
def get2 (s : Sure) (i j : Nat) : Option By := (s[i]?).bind (·[j]?)
def set2 (s : Sure) (i j : Nat) (x : By) : Sure := s.modify i (fun r => r.set j x)
/-- 'cut', from toCome on -/
def cutGo (v : View) (kind l next : Nat) : Nat → Nat → Sure → Bool → Option (Bool × Sure)
  | 0, _, s, b => some (b, s)
  | n + 1, tc, s, b =>
    -- the row that is ranged over is a copy: what was sure ahead of the loop
    match get2 s kind tc with
    | none => none
    | some su => let st := vstep v kind tc l
      match get2 s next st.2 with
      | none => none
      | some x => let c := common su (st.1 ++ x)
        if c < su.length then cutGo v kind l next n (tc + 1) (set2 s kind tc (su.take c)) true else cutGo v kind l next n (tc + 1) s b
def cutL (v : View) (k : Nat) (r : R4) : Nat → Sure → Bool → Option (Bool × Sure)
  | 0, s, b => some (b, s)
  | n + 1, s, b => match r.get (3 - n) with
    | none => none
    | some longer => match cutGo v longer (3 - n) k 4 0 s false with
      | none => none
      | some (x, s) => cutL v k r n s (b || x)
def cutK (v : View) : List R4 → Nat → Sure → Bool → Option (Bool × Sure)
  | [], _, s, b => some (b, s)
  | r :: rs, k, s, b => match cutL v k r 4 s b with
    | none => none
    | some (b, s) => cutK v rs (k + 1) s b
def cutAll (v : View) : Nat → Sure → Option Sure
  | 0, _ => none
  | f + 1, s => match cutK v v.k.ahead 0 s false with
    | none => none
    | some (b, s) => if b then cutAll v f s else some s
def estep (v : View) (su : Sure) (kind tc l next : Nat) : Option (By × Nat) :=
  let st := vstep v kind tc l
  match get2 su next st.2, get2 su kind tc with
  | some x, some y => let whole := st.1 ++ x
    if whole.length < y.length then some ([], st.2) else some (whole.drop y.length, st.2)
  | _, _ => none
def get3 (a : Apart) (i j k : Nat) : Option Bool := ((a[i]?).bind (·[j]?)).bind (·[k]?)
def set3 (a : Apart) (i j k : Nat) : Apart := a.modify i (fun r => r.modify j (fun q => q.set k true))
def tellY (v : View) (su : Sure) (kind l next x : Nat) (sx : By × Nat) : Nat → Nat → Apart → Bool → Option (Bool × Apart)
  | 0, _, a, g => some (g, a)
  | n + 1, y, a, g => match estep v su kind y l next with
    | none => none
    | some sy => match (if sx.1 = sy.1 then get3 a next sx.2 sy.2 else some true) with
      | none => none
      | some differ => match (if differ then (get3 a kind x y).map not else some false) with
        | none => none
        | some true => tellY v su kind l next x sx n (y + 1) (set3 a kind x y) true
        | some false => tellY v su kind l next x sx n (y + 1) a g
def tellX (v : View) (su : Sure) (kind l next : Nat) : Nat → Nat → Apart → Bool → Option (Bool × Apart)
  | 0, _, a, g => some (g, a)
  | n + 1, x, a, g => match estep v su kind x l next with
    | none => none
    | some sx => match tellY v su kind l next x sx 4 0 a g with
      | none => none
      | some (g, a) => tellX v su kind l next n (x + 1) a g
def apL (v : View) (su : Sure) (k : Nat) (r : R4) : Nat → Apart → Bool → Option (Bool × Apart)
  | 0, s, b => some (b, s)
  | n + 1, s, b => match r.get (3 - n) with
    | none => none
    | some longer => match tellX v su longer (3 - n) k 4 0 s false with
      | none => none
      | some (x, s) => apL v su k r n s (b || x)
def apK (v : View) (su : Sure) : List R4 → Nat → Apart → Bool → Option (Bool × Apart)
  | [], _, s, b => some (b, s)
  | r :: rs, k, s, b => match apL v su k r 4 s b with
    | none => none
    | some (b, s) => apK v su rs (k + 1) s b
def apAll (v : View) (su : Sure) : Nat → Apart → Option Apart
  | 0, _ => none
  | f + 1, s => match apK v su v.k.ahead 0 s false with
    | none => none
    | some (b, s) => if b then apAll v su f s else some s
structure Outlook where
  v : View
  su : Sure
  ap : Apart
def outlookM (v : View) : Option Outlook :=
  match sure0 v v.k.words with
  | none => none
  | some s => match cutAll v 1000 s with
    | none => none
    | some s => (apAll v s 1000 (List.replicate s.length [none4, none4, none4, none4])).map fun a => ⟨v, s, a⟩
def leastGo (ap : Apart) (k tc : Nat) : Nat → Nat → Option Nat
  | 0, _ => none
  | f + 1, le => if tc ≤ le then some le else
    match get3 ap k le tc with
    | none => none
    | some b => if b then leastGo ap k tc f (le + 1) else some le
structure Bundle where
  tc : List Nat
  held : List By
def bundle0 : Bundle := ⟨List.replicate 24 0, List.replicate 24 []⟩
def startGo : Sure → Nat → Bundle → Option Bundle
  | [], _, b => some b
  | r :: rs, k, b => match r[0]? with
    | none => none
    | some x => if k < 24 then startGo rs (k + 1) { b with held := b.held.set k x } else none
def commonAll : By → List By → By
  | a, [] => a
  | a, w :: ws => commonAll (a.take (common a w)) ws
def commonM : List By → By
  | [] => []
  | w :: ws => commonAll w (w :: ws)
def dropGo (m : Nat) : Nat → Nat → List By → Option (List By)
  | 0, _, h => some h
  | n + 1, k, h => match h[k]? with
    | none => none
    | some x => if x.length < m then none else dropGo m n (k + 1) (h.set k (x.drop m))
structure ESt where
  en : By
  sd : List By
  nx : List Nat
/-! twin -/
structure Pair where
  x : Nat
  s : Nat
  y : Nat
  t : Nat
structure Stp where
  fr : Nat
  tt : Nat
  l : Nat
  s0 : By
  s1 : By
def silent (s : Stp) : Bool := s.s0.isEmpty && s.s1.isEmpty
/-- a round of onwardTo: over all steps. -/
def onRound (on : List Int) (round : Nat) : List Stp → Nat → List Int → List Nat → Bool → Option (List Int × List Nat × Bool)
  | [], _, ow, far, gr => some (ow, far, gr)
  | s :: ss, i, ow, far, gr =>
    match on[s.tt]?, far[s.tt]?, far[s.fr]? with
    | some o, some ft, some ff =>
      let there := decide (round = 1) && !silent s && decide (0 ≤ o)
      let nearer := decide (1 < round) && decide (ft = round - 1)
      if decide (ff = 0) && (there || nearer) then onRound on round ss (i + 1) (ow.set s.fr (i : Int)) (far.set s.fr round) true
      else onRound on round ss (i + 1) ow far gr
    | _, _, _ => none
def onGo (on : List Int) (steps : List Stp) : Nat → Nat → List Int → List Nat → Option (List Int)
  | 0, _, _, _ => none
  | f + 1, round, ow, far => match onRound on round steps 0 ow far false with
    | none => none
    | some (ow, far, gr) => if gr then onGo on steps f (round + 1) ow far else some ow
def countOn : List Int → Nat
  | [] => 0
  | x :: xs => (if 0 ≤ x then 1 else 0) + countOn xs
structure Fnd where
  pair : Nat
  h0 : By
  h1 : By
  fr : Int
  l : Nat
  before : Int
def seen (found : List Fnd) (h0 h1 : By) : Nat → Int → Option Bool
  | 0, _ => none
  | f + 1, i => if i < 0 then some false else
    match found[i.toNat]? with
    | none => none
    | some x => if x.h0 = h0 && x.h1 = h1 then some true else seen found h0 h1 f x.before
structure Way where
  tt : By
  ro : By
  re : By
def wat (w : Way) (i : Nat) : Nat := if i < w.tt.length then (w.tt.getD i 0).toNat else if w.ro.isEmpty then 0 else (w.ro.getD ((i - w.tt.length) % w.ro.length) 0).toNat
def outgrow (one other : Way) : Option (Nat × Bool) :=
  let behind : Int := (other.tt.length : Int) + other.re.length - one.tt.length - one.re.length
  let gain : Int := (one.ro.length : Int) - other.ro.length
  if behind ≤ 0 ∨ gain ≤ 0 then some (0, decide (0 < gain)) else some (((behind + gain - 1) / gain).toNat, true)
def partGo (one other : Way) (least size : Nat) : Nat → Nat → Nat × Bool
  | 0, _ => (0, false)
  | n + 1, i => if wat one i = wat other i then partGo one other least size n (i + 1)
    else if i < least then (0, true) else ((i - least) / size + 1, true)
def ahead' (one other : Way) : Option (Nat × Bool) :=
  if one.ro.length = other.ro.length then
    let size := one.ro.length
    if size = 0 then some (0, false) else
    some (partGo one other (min one.tt.length other.tt.length) size (max one.tt.length other.tt.length + size) 0)
  else if one.ro.length < other.ro.length then outgrow other one else outgrow one other
structure Wit where
  x : By
  y : By
  z1 : By
  z2 : By
  c : Nat
end Go.Proofs.YtmbapmbpnnaanabGreatDoor.M2
namespace Go.Proofs.YtmbapmbpnnaanabGreatDoor
open Go.RowKit
attribute [local go_sem ↓] Go.wp_at_zero Go.wp_at_succ

def netV (vp : Value) (x : Mir.Piece) : Value := .agg #[vp, .bool x.e, .int .u32 (x.f : Int), .int .u32 (x.l : Int)]
theorem hit_lt {ps : List Mir.Place} (h : ps.length ≤ 18) : M2.hitN ps ≤ 262144 := by
  unfold M2.hitN
  rw [bit_pow]
  exact Nat.le_trans (Nat.pow_le_pow_right (by omega) h) (by decide)

theorem hit_any (w : World) (vp : Value) (ps : List Mir.Place) (x : Mir.Piece) (hrow : Row PlE w vp ps) (hl : ps.length ≤ 18) :
    Calls Tryz.prog 145 #[netV vp x] w fun e w' => e = .returned (.int .u32 (M2.hitN ps : Int)) ∧ Mod No w w' := by
  obtain ⟨a, cap, rfl, -, -, -⟩ := hrow.any
  have H1 : Hid (∀ wx, Calls Tryz.prog 141 #[.int .i64 (ps.length : Int)] wx fun e w' => e = .returned (.int .u32 (M2.hitN ps : Int)) ∧ w' = wx) := fun wx => single_any ps.length (by omega) wx
  generalize M2.hitN ps = H at H1
  generalize ps.length = n at H1 hl
  clear hrow
  unfold netV
  go_enter Tryz.func145, Tryz.ntmps145
  go_wp2_with fail
  refine (H1.out _).mono ?_
  rintro e w1 ⟨rfl, rfl⟩
  clear H1
  go_wp2
  go_ret
  exact ⟨rfl, (Mod.refl _ _).alloc _⟩

theorem states_any (w : World) (vp : Value) (ps : List Mir.Place) (x : Mir.Piece) (hrow : Row PlE w vp ps) (hl : ps.length ≤ 18) :
    Calls Tryz.prog 121 #[netV vp x] w fun e w' => e = .returned (.int .i64 ((M2.hitN ps + 1 : Nat) : Int)) ∧ Mod No w w' := by
  have H1 : Hid (∀ o, Calls Tryz.prog 145 #[netV vp x] (w.alloc o) fun e w' => e = .returned (.int .u32 (M2.hitN ps : Int)) ∧ Mod No (w.alloc o) w') := fun o => hit_any _ vp ps x (hrow.alloc o) hl
  have hh := hit_lt hl
  generalize M2.hitN ps = H at H1 hh
  obtain ⟨a, cap, rfl, -, -, -⟩ := hrow.any
  generalize ps.length = n at H1 hl
  clear hrow
  unfold netV at *
  go_enter Tryz.func121, Tryz.ntmps121
  go_wp2_with fail
  refine (H1.out _).mono ?_
  rintro e w1 ⟨rfl, m1⟩
  clear H1
  go_wp2
  go_ret
  exact ⟨wrap_ret (by omega), ((Mod.refl _ _).alloc _).no m1⟩

theorem isHit_any (w : World) (vp : Value) (ps : List Mir.Place) (x : Mir.Piece) (st : Nat) (hrow : Row PlE w vp ps) (hl : ps.length ≤ 18) :
    Calls Tryz.prog 125 #[netV vp x, .int .i64 (st : Int)] w fun e w' => e = .returned (.bool (decide (st = M2.hitN ps))) ∧ Mod No w w' := by
  have H1 : Hid (∀ o, Calls Tryz.prog 145 #[netV vp x] (w.alloc o) fun e w' => e = .returned (.int .u32 (M2.hitN ps : Int)) ∧ Mod No (w.alloc o) w') := fun o => hit_any _ vp ps x (hrow.alloc o) hl
  have hh := hit_lt hl
  generalize M2.hitN ps = H at H1 hh
  have HC : Hid (((st : Int) == (H : Int)) = decide (st = H)) := beq_cast st H
  obtain ⟨a, cap, rfl, -, -, -⟩ := hrow.any
  generalize ps.length = n at H1 hl
  clear hrow
  unfold netV at *
  go_enter Tryz.func125, Tryz.ntmps125
  go_wp2_with fail
  refine (H1.out _).mono ?_
  rintro e w1 ⟨rfl, m1⟩
  clear H1
  go_wp2
  go_ret
  exact ⟨ret_bool HC.out, ((Mod.refl _ _).alloc _).no m1⟩

theorem start_any (w : World) (vp : Value) (ps : List Mir.Place) (x : Mir.Piece) (hrow : Row PlE w vp ps) (hl : ps.length ≤ 18) (hx : POk x) :
    Calls Tryz.prog 123 #[netV vp x] w fun e w' => e = .returned (.int .i64 ((if x.e then M2.hitN ps else x.f : Nat) : Int)) ∧ Mod No w w' := by
  have H1 : Hid (∀ o, Calls Tryz.prog 145 #[netV vp x] (w.alloc o) fun e w' => e = .returned (.int .u32 (M2.hitN ps : Int)) ∧ Mod No (w.alloc o) w') := fun o => hit_any _ vp ps x (hrow.alloc o) hl
  have hh := hit_lt hl
  generalize M2.hitN ps = H at H1 hh ⊢
  obtain ⟨a, cap, rfl, -, -, -⟩ := hrow.any
  generalize ps.length = n at H1 hl
  obtain ⟨xe, xf, xl⟩ := x
  have hxf : xf < 4294967296 := hx.1
  clear hrow hx
  unfold netV at *
  dsimp only at *
  cases xe with
  | true =>
    rw [if_pos rfl]
    go_enter Tryz.func123, Tryz.ntmps123
    go_wp2_with fail
    refine (H1.out _).mono ?_
    rintro e w1 ⟨rfl, m1⟩
    clear H1
    go_wp2
    go_ret
    exact ⟨wrap_ret (by omega), ((Mod.refl _ _).alloc _).no m1⟩
  | false =>
    rw [if_neg (by simp)]
    clear H1
    go_enter Tryz.func123, Tryz.ntmps123
    go_wp2
    go_ret
    exact ⟨wrap_ret (by omega), (Mod.refl _ _).alloc _⟩
end Go.Proofs.YtmbapmbpnnaanabGreatDoor
