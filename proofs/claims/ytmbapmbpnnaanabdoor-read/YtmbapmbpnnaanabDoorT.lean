import Derived.Test.YtmbapmbpnnaanabDoorW
import Derived.ChangeKeysEq
namespace Go.Proofs.YtmbapmbpnnaanabDoor
open Go.RowKit

theorem Tryd.info9 : (Tryd.prog.info? 9).map (fun i => (i.zero, i.size, i.bytes)) = some (some (.string ⟨#[]⟩), 1, 16) := by kernel_rfl
theorem part0 (A B C D : ByteArray) (w : World) : (part 9 #[.string A, .string B, .string C, .string D] 0).run Tryd.prog w = .ok (.string A) w := by kernel_rfl
theorem part1 (A B C D : ByteArray) (w : World) : (part 9 #[.string A, .string B, .string C, .string D] 1).run Tryd.prog w = .ok (.string B) w := by kernel_rfl
theorem part2 (A B C D : ByteArray) (w : World) : (part 9 #[.string A, .string B, .string C, .string D] 2).run Tryd.prog w = .ok (.string C) w := by kernel_rfl
theorem part3 (A B C D : ByteArray) (w : World) : (part 9 #[.string A, .string B, .string C, .string D] 3).run Tryd.prog w = .ok (.string D) w := by kernel_rfl
theorem Tryd.cells9 : Tryd.prog.cellsOf 9 = 1 := by kernel_rfl
theorem range4 : List.range 4 = [0, 1, 2, 3] := rfl

theorem eqArr (A B C D A' B' C' D' : ByteArray) : ∃ b, ∀ w : World, (Op.equalIn 10000 35 (.agg #[.string A, .string B, .string C, .string D]) (.agg #[.string A', .string B', .string C', .string D'])).run Tryd.prog w = .ok b w := by
  obtain ⟨i0, hinf, -⟩ := info_parts Tryd.info9
  refine ⟨(A.toList == A'.toList) && ((B.toList == B'.toList) && ((C.toList == C'.toList) && (D.toList == D'.toList))), fun w => ?_⟩
  rw [run_equalIn_array w 9999 _ _ Tryd.underlying35 hinf, range4]
  have e : ∀ (a b : ByteArray) (w : World), (Op.equalIn 9999 9 (.string a) (.string b)).run Tryd.prog w = .ok (a.toList == b.toList) w := fun a b w => run_equalIn_string w 9998 9 a b Tryd.underlying9
  rw [Tryd.cells9]
  simp only [Op.eqItems, Nat.mul_one, Sem.run_bind, Sem.run_ite, Sem.run_pure, part0, part1, part2, part3, Result.andThen_ok, e]
  cases (A.toList == A'.toList) <;> cases (B.toList == B'.toList) <;> cases (C.toList == C'.toList) <;> cases (D.toList == D'.toList) <;> rfl
end Go.Proofs.YtmbapmbpnnaanabDoor
