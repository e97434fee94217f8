import Derived.Test.YtmbapmbpnnaanabGreatDoorOE
import Derived.Test.YtmbapmbpnnaanabGreatDoorOF
namespace Go.Proofs.YtmbapmbpnnaanabGreatDoor

/-- Whether the mirror of Compile answers as a lot says. -/
def lotB (x : ByteArray × Nat × ByteArray) : Bool :=
  match M3.compile 200 x.1.data.toList with
  | none => false
  | some r => decide (r.2.2 = x.2.1) && decide (x.1.size ≤ 1048576) && (decide (¬ x.2.1 = 0) || (decide (0 < r.1.length) && decide (r.1.length ≤ 200) && r.1.all (fun q => (Tx.nexts q).all fun t => decide (t < 100)) && decide ((Tx.textM r.1).length ≤ 1048576) && decide (x.2.2.data.toList = Tx.textM r.1)))
def lotAt (i : Nat) : Bool := match lotsL[i]? with
  | some x => lotB x
  | none => true
theorem lot0 : lotAt 0 = true := by decide +kernel
theorem lot1 : lotAt 1 = true := by decide +kernel
theorem lot2 : lotAt 2 = true := by decide +kernel
theorem lot3 : lotAt 3 = true := by decide +kernel
theorem lot4 : lotAt 4 = true := by decide +kernel
theorem lot5 : lotAt 5 = true := by decide +kernel
theorem lot6 : lotAt 6 = true := by decide +kernel
theorem lot7 : lotAt 7 = true := by decide +kernel
theorem lot8 : lotAt 8 = true := by decide +kernel
theorem lot9 : lotAt 9 = true := by decide +kernel
theorem lot10 : lotAt 10 = true := by decide +kernel
theorem lot11 : lotAt 11 = true := by decide +kernel
end Go.Proofs.YtmbapmbpnnaanabGreatDoor
