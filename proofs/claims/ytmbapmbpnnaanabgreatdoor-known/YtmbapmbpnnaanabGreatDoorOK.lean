import Derived.Test.YtmbapmbpnnaanabGreatDoorOJ
namespace Go.Proofs.YtmbapmbpnnaanabGreatDoor
theorem lot12 : lotAt 12 = true := by decide +kernel
theorem lot13 : lotAt 13 = true := by decide +kernel
theorem lot14 : lotAt 14 = true := by decide +kernel
end Go.Proofs.YtmbapmbpnnaanabGreatDoor
