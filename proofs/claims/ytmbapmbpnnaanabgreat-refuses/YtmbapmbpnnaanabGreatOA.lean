import Derived.Test.YtmbapmbpnnaanabGreatKH
import Derived.Test.YtmbapmbpnnaanabGreatKS
namespace Go.Proofs.YtmbapmbpnnaanabGreat.Tx
open Go.RowKit
/-- The states of a machine in a slice. -/
def StaE : Enc M2.ESt := ⟨75, 9, fun s => [.string ⟨s.en.toArray⟩, .string ⟨(s.sd.getD 0 []).toArray⟩, .string ⟨(s.sd.getD 1 []).toArray⟩, .string ⟨(s.sd.getD 2 []).toArray⟩, .string ⟨(s.sd.getD 3 []).toArray⟩, .int .i64 ((s.nx.getD 0 0 : Nat) : Int), .int .i64 ((s.nx.getD 1 0 : Nat) : Int), .int .i64 ((s.nx.getD 2 0 : Nat) : Int), .int .i64 ((s.nx.getD 3 0 : Nat) : Int)], fun _ => rfl⟩
def nexts (q : M2.ESt) : List Nat := [q.nx.getD 0 0, q.nx.getD 1 0, q.nx.getD 2 0, q.nx.getD 3 0]
def saids (q : M2.ESt) : List (List UInt8) := [q.sd.getD 0 [], q.sd.getD 1 [], q.sd.getD 2 [], q.sd.getD 3 []]
def Within (sts : List M2.ESt) : Prop := ∀ q ∈ sts, ∀ t ∈ nexts q, t < 100
theorem sta_nine {w : World} {g n cap : Nat} {sts : List M2.ESt} (h : Row StaE w (.slice (some ⟨g, 0, none⟩) n cap) sts) (i : Nat) (q : M2.ESt) (hq : sts[i]? = some q) :
    ∃ (S0 S1 S2 S3 S4 : ByteArray) (N0 N1 N2 N3 : Nat), (S0 = ⟨q.en.toArray⟩ ∧ [S1, S2, S3, S4] = (saids q).map (fun l => (⟨l.toArray⟩ : ByteArray)) ∧ [N0, N1, N2, N3] = nexts q) ∧
      (w.cell? ⟨g, i * 9, none⟩ = some (.string S0) ∧ w.cell? ⟨g, i * 9 + 1, none⟩ = some (.string S1) ∧ w.cell? ⟨g, i * 9 + 2, none⟩ = some (.string S2) ∧ w.cell? ⟨g, i * 9 + 3, none⟩ = some (.string S3) ∧
      w.cell? ⟨g, i * 9 + 4, none⟩ = some (.string S4) ∧ w.cell? ⟨g, i * 9 + 5, none⟩ = some (.int .i64 (N0 : Int)) ∧ w.cell? ⟨g, i * 9 + 6, none⟩ = some (.int .i64 (N1 : Int)) ∧
      w.cell? ⟨g, i * 9 + 7, none⟩ = some (.int .i64 (N2 : Int)) ∧ w.cell? ⟨g, i * 9 + 8, none⟩ = some (.int .i64 (N3 : Int))) :=
  ⟨_, _, _, _, _, _, _, _, _, ⟨rfl, rfl, rfl⟩, h.cell i 0 hq rfl, h.cell i 1 hq rfl, h.cell i 2 hq rfl, h.cell i 3 hq rfl, h.cell i 4 hq rfl, h.cell i 5 hq rfl, h.cell i 6 hq rfl, h.cell i 7 hq rfl, h.cell i 8 hq rfl⟩
theorem blk_cell {w : World} {H : Nat} {a : Array Value} {t : Nat} {fr : Nat × Nat} (h : w.heap[H]? = some (.cells a t fr)) (j : Nat) (v : Value) (hv : a[j]? = some v) : w.cell? ⟨H, j, none⟩ = some v := by
  simp [World.cell?, h, hv]
end Go.Proofs.YtmbapmbpnnaanabGreat.Tx
