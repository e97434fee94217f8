import Derived.Test.YtmbapmbpnnaanabGreatOE
import Derived.Test.YtmbapmbpnnaanabGreatRA
namespace Go.Proofs.YtmbapmbpnnaanabGreat

/-- Whether the mirror of Compile answers as a refusal says. -/
def refB (x : ByteArray × Nat × Nat) : Bool :=
  match M3.compile 200 x.1.data.toList with
  | none => false
  | some r => decide (r.2.2 = x.2.1) && decide (r.2.1 = x.2.2) && decide (x.1.size ≤ 1048576) && (decide (¬ x.2.1 = 0) || decide (x.2.2 = 0))
def refAt (i : Nat) : Bool := match refsL[i]? with
  | some x => refB x
  | none => true
theorem refT0 : refAt 0 = true := by decide +kernel
theorem refT1 : refAt 1 = true := by decide +kernel
theorem refT2 : refAt 2 = true := by decide +kernel
theorem refT3 : refAt 3 = true := by decide +kernel
theorem refT4 : refAt 4 = true := by decide +kernel
theorem refT5 : refAt 5 = true := by decide +kernel
theorem refT6 : refAt 6 = true := by decide +kernel
theorem refT7 : refAt 7 = true := by decide +kernel
theorem refT8 : refAt 8 = true := by decide +kernel
theorem refT9 : refAt 9 = true := by decide +kernel
theorem refT10 : refAt 10 = true := by decide +kernel
theorem refT11 : refAt 11 = true := by decide +kernel
theorem refT12 : refAt 12 = true := by decide +kernel
theorem refT13 : refAt 13 = true := by decide +kernel
theorem refT14 : refAt 14 = true := by decide +kernel
theorem refT15 : refAt 15 = true := by decide +kernel
theorem refT16 : refAt 16 = true := by decide +kernel
theorem refT17 : refAt 17 = true := by decide +kernel
theorem refT18 : refAt 18 = true := by decide +kernel
theorem refT19 : refAt 19 = true := by decide +kernel
theorem refT20 : refAt 20 = true := by decide +kernel
theorem refT21 : refAt 21 = true := by decide +kernel
theorem refT22 : refAt 22 = true := by decide +kernel
theorem refT23 : refAt 23 = true := by decide +kernel
theorem refT24 : refAt 24 = true := by decide +kernel
theorem refT25 : refAt 25 = true := by decide +kernel
theorem refT26 : refAt 26 = true := by decide +kernel
theorem refT27 : refAt 27 = true := by decide +kernel
theorem refT28 : refAt 28 = true := by decide +kernel
theorem refT29 : refAt 29 = true := by decide +kernel
theorem refT30 : refAt 30 = true := by decide +kernel
theorem refT31 : refAt 31 = true := by decide +kernel
theorem refT32 : refAt 32 = true := by decide +kernel
theorem refT33 : refAt 33 = true := by decide +kernel
theorem ref_all : ∀ i, i < 34 → refAt i = true
  | 0, _ => refT0
  | 1, _ => refT1
  | 2, _ => refT2
  | 3, _ => refT3
  | 4, _ => refT4
  | 5, _ => refT5
  | 6, _ => refT6
  | 7, _ => refT7
  | 8, _ => refT8
  | 9, _ => refT9
  | 10, _ => refT10
  | 11, _ => refT11
  | 12, _ => refT12
  | 13, _ => refT13
  | 14, _ => refT14
  | 15, _ => refT15
  | 16, _ => refT16
  | 17, _ => refT17
  | 18, _ => refT18
  | 19, _ => refT19
  | 20, _ => refT20
  | 21, _ => refT21
  | 22, _ => refT22
  | 23, _ => refT23
  | 24, _ => refT24
  | 25, _ => refT25
  | 26, _ => refT26
  | 27, _ => refT27
  | 28, _ => refT28
  | 29, _ => refT29
  | 30, _ => refT30
  | 31, _ => refT31
  | 32, _ => refT32
  | 33, _ => refT33
  | n + 34, h => absurd h (by omega)
end Go.Proofs.YtmbapmbpnnaanabGreat
