import Derived.Test.YtmbapmbpnnaanabGreatSF
import Derived.Test.YtmbapmbpnnaanabGreatRA
namespace Go.Proofs.YtmbapmbpnnaanabGreat.Ld
open Go.RowKit

def goodS : ByteArray := ⟨#[45, 32, 45, 58, 49, 32, 45, 58, 48, 32, 99, 58, 48, 32, 100, 58, 48, 10, 97, 32, 97, 58, 49, 32, 97, 98, 58, 48, 32, 98, 99, 58, 48, 32, 97, 100, 58, 48, 10]⟩
def g0 : St := ⟨[], [[], [], [99], [100]], [1, 0, 0, 0]⟩
def g1 : St := ⟨[97], [[97], [97, 98], [98, 99], [97, 100]], [1, 0, 0, 0]⟩
theorem good_read : readM goodS goodS.size 0 [] = some [g0, g1] := by kernel_rfl
theorem good_b1 (x y : Nat) : bgOf g1 [x, y] = 3 := by kernel_rfl
theorem good_b0 : ∀ x, x < 512 → bgOf g0 [x, 3] = x → oneB x = false := by decide +kernel
theorem good_early (sets : List Nat) (hg : Good [g0, g1] sets) (hf : Fixed [g0, g1] sets) : sets.any oneB = false := by
  obtain ⟨x, y, rfl⟩ := len2 (hg.len : sets.length = 2)
  have h1 := hf 1 g1 rfl
  rw [good_b1] at h1
  have hy : y = 3 := by simpa using h1
  subst hy
  have h0 := hf 0 g0 rfl
  have hx : bgOf g0 [x, 3] = x := by simpa using h0.symm
  have hlt := hg.lt x (by simp)
  simp only [List.any_cons, List.any_nil, Bool.or_false, good_b0 x hlt hx, Bool.false_or]
  decide +kernel
theorem good_load : LoadIs goodS (some [g0, g1]) :=
  Or.inr (Or.inr ⟨[g0, g1], good_read, by decide, Or.inr ⟨Or.inr ⟨by kernel_rfl, by unfold Within; decide +kernel, Or.inr ⟨good_early, 10, ([0, 1], 2), by decide +kernel, by decide +kernel⟩⟩, rfl⟩⟩)
theorem no0 : LoadIs ⟨#[]⟩ none :=
  Or.inr (Or.inl ⟨by kernel_rfl, rfl⟩)
theorem no1 : LoadIs ⟨#[45, 32, 66, 58, 48, 32, 98, 58, 48, 32, 99, 58, 48, 32, 100, 58, 48]⟩ none :=
  Or.inl ⟨by kernel_rfl, rfl⟩
theorem no2 : LoadIs ⟨#[45, 32, 66, 58, 48, 32, 98, 58, 48, 32, 99, 58, 48, 10]⟩ none :=
  Or.inl ⟨by kernel_rfl, rfl⟩
theorem no3 : LoadIs ⟨#[45, 32, 66, 58, 48, 32, 98, 58, 48, 32, 99, 58, 48, 32, 100, 58, 48, 32, 97, 58, 48, 10]⟩ none :=
  Or.inl ⟨by kernel_rfl, rfl⟩
theorem no4 : LoadIs ⟨#[45, 32, 66, 58, 49, 32, 98, 58, 48, 32, 99, 58, 48, 32, 100, 58, 48, 10]⟩ none :=
  Or.inr (Or.inr ⟨[⟨[], [[66], [98], [99], [100]], [1, 0, 0, 0]⟩], by kernel_rfl, by decide, Or.inl ⟨Or.inl ⟨by kernel_rfl, rfl⟩, rfl⟩⟩)
theorem no5 : LoadIs ⟨#[45, 32, 66, 58, 48, 48, 32, 98, 58, 48, 32, 99, 58, 48, 32, 100, 58, 48, 10]⟩ none :=
  Or.inl ⟨by kernel_rfl, rfl⟩
theorem no6 : LoadIs ⟨#[45, 32, 66, 58, 48, 32, 32, 98, 58, 48, 32, 99, 58, 48, 32, 100, 58, 48, 10]⟩ none :=
  Or.inl ⟨by kernel_rfl, rfl⟩
theorem no7 : LoadIs ⟨#[32, 66, 58, 48, 32, 98, 58, 48, 32, 99, 58, 48, 32, 100, 58, 48, 10]⟩ none :=
  Or.inl ⟨by kernel_rfl, rfl⟩
theorem no8 : LoadIs ⟨#[45, 32, 69, 58, 48, 32, 98, 58, 48, 32, 99, 58, 48, 32, 100, 58, 48, 10]⟩ none :=
  Or.inl ⟨by kernel_rfl, rfl⟩
def q9 : St := ⟨[66], [[66], [66, 98], [66, 99], [66, 100]], [0, 0, 0, 0]⟩
theorem e9_b (x : Nat) : bgOf q9 [x] = 32 := by kernel_rfl
theorem e9_early (sets : List Nat) (hg : Good [q9] sets) (hf : Fixed [q9] sets) : sets.any oneB = true := by
  obtain ⟨x, rfl⟩ := len1 (hg.len : sets.length = 1)
  have h1 := hf 0 q9 rfl
  rw [e9_b] at h1
  have hx : x = 32 := by simpa using h1
  subst hx
  decide +kernel
theorem no9 : LoadIs ⟨#[66, 32, 66, 58, 48, 32, 66, 98, 58, 48, 32, 66, 99, 58, 48, 32, 66, 100, 58, 48, 10]⟩ none :=
  Or.inr (Or.inr ⟨[q9], by kernel_rfl, by decide, Or.inl ⟨Or.inr ⟨by kernel_rfl, by unfold Within; decide +kernel, Or.inl ⟨e9_early, rfl⟩⟩, rfl⟩⟩)
def p10 : St := ⟨[], [[], [98], [99], [100]], [1, 0, 0, 0]⟩
def q10 : St := ⟨[97], [[97, 97], [97, 98], [97, 99], [97, 100]], [1, 0, 0, 0]⟩
theorem e10_b (x y : Nat) : bgOf q10 [x, y] = 1 := by kernel_rfl
theorem e10_early (sets : List Nat) (hg : Good [p10, q10] sets) (hf : Fixed [p10, q10] sets) : sets.any oneB = true := by
  obtain ⟨x, y, rfl⟩ := len2 (hg.len : sets.length = 2)
  have h1 := hf 1 q10 rfl
  rw [e10_b] at h1
  have hy : y = 1 := by simpa using h1
  subst hy
  have h2 : oneB 1 = true := by decide +kernel
  simp only [List.any_cons, h2, Bool.true_or, Bool.or_true]
theorem no10 : LoadIs ⟨#[45, 32, 45, 58, 49, 32, 98, 58, 48, 32, 99, 58, 48, 32, 100, 58, 48, 10, 97, 32, 97, 97, 58, 49, 32, 97, 98, 58, 48, 32, 97, 99, 58, 48, 32, 97, 100, 58, 48, 10]⟩ none :=
  Or.inr (Or.inr ⟨[p10, q10], by kernel_rfl, by decide, Or.inl ⟨Or.inr ⟨by kernel_rfl, by unfold Within; decide +kernel, Or.inl ⟨e10_early, rfl⟩⟩, rfl⟩⟩)
def q11 : St := ⟨[], [[66], [98], [99], [100]], [1, 0, 0, 0]⟩
theorem e11_b (x y : Nat) : bgOf q11 [x, y] = 302 := by kernel_rfl
theorem e11_early (sets : List Nat) (hg : Good [q11, q11] sets) (hf : Fixed [q11, q11] sets) : sets.any oneB = false := by
  obtain ⟨x, y, rfl⟩ := len2 (hg.len : sets.length = 2)
  have h0 := hf 0 q11 rfl
  have h1 := hf 1 q11 rfl
  rw [e11_b] at h0 h1
  have hx : x = 302 := by simpa using h0
  have hy : y = 302 := by simpa using h1
  subst hx hy
  decide +kernel
theorem no11 : LoadIs ⟨#[45, 32, 66, 58, 49, 32, 98, 58, 48, 32, 99, 58, 48, 32, 100, 58, 48, 10, 45, 32, 66, 58, 49, 32, 98, 58, 48, 32, 99, 58, 48, 32, 100, 58, 48, 10]⟩ none :=
  Or.inr (Or.inr ⟨[q11, q11], by kernel_rfl, by decide, Or.inl ⟨Or.inr ⟨by kernel_rfl, by unfold Within; decide +kernel, Or.inr ⟨e11_early, 10, ([0, 0], 1), by decide +kernel, by decide +kernel⟩⟩, rfl⟩⟩)
theorem no12 : LoadIs ⟨#[45, 32, 66, 58, 48, 32, 98, 58, 48, 32, 99, 58, 48, 32, 100, 58, 48, 10, 97, 32, 97, 58, 48, 32, 97, 98, 58, 48, 32, 98, 99, 58, 48, 32, 97, 100, 58, 48, 10]⟩ none :=
  Or.inr (Or.inr ⟨[⟨[], [[66], [98], [99], [100]], [0, 0, 0, 0]⟩, ⟨[97], [[97], [97, 98], [98, 99], [97, 100]], [0, 0, 0, 0]⟩], by kernel_rfl, by decide, Or.inl ⟨Or.inl ⟨by kernel_rfl, rfl⟩, rfl⟩⟩)
theorem no13 : LoadIs ⟨#[45, 32, 97, 58, 50, 32, 98, 58, 49, 32, 99, 58, 48, 32, 100, 58, 48, 10, 45, 32, 65, 58, 49, 32, 98, 58, 48, 32, 99, 58, 48, 32, 100, 58, 48, 10, 45, 32, 97, 58, 50, 32, 66, 58, 48, 32, 99, 58, 48, 32, 100, 58, 48, 10]⟩ none :=
  Or.inr (Or.inr ⟨[⟨[], [[97], [98], [99], [100]], [2, 1, 0, 0]⟩, ⟨[], [[65], [98], [99], [100]], [1, 0, 0, 0]⟩, ⟨[], [[97], [66], [99], [100]], [2, 0, 0, 0]⟩], by kernel_rfl, by decide, Or.inl ⟨Or.inl ⟨by kernel_rfl, rfl⟩, rfl⟩⟩)
theorem no14 : LoadIs ⟨#[45, 32, 66, 58, 48, 32, 98, 58, 48, 32, 99, 58, 48, 32, 100, 58, 48, 10, 10]⟩ none :=
  Or.inl ⟨by kernel_rfl, rfl⟩
theorem no_all : ∀ i, i < 15 → ∃ t, textsL[i]? = some t ∧ LoadIs t none ∧ t.size ≤ 1048576
  | 0, _ => ⟨_, rfl, no0, by decide⟩
  | 1, _ => ⟨_, rfl, no1, by decide⟩
  | 2, _ => ⟨_, rfl, no2, by decide⟩
  | 3, _ => ⟨_, rfl, no3, by decide⟩
  | 4, _ => ⟨_, rfl, no4, by decide⟩
  | 5, _ => ⟨_, rfl, no5, by decide⟩
  | 6, _ => ⟨_, rfl, no6, by decide⟩
  | 7, _ => ⟨_, rfl, no7, by decide⟩
  | 8, _ => ⟨_, rfl, no8, by decide⟩
  | 9, _ => ⟨_, rfl, no9, by decide⟩
  | 10, _ => ⟨_, rfl, no10, by decide⟩
  | 11, _ => ⟨_, rfl, no11, by decide⟩
  | 12, _ => ⟨_, rfl, no12, by decide⟩
  | 13, _ => ⟨_, rfl, no13, by decide⟩
  | 14, _ => ⟨_, rfl, no14, by decide⟩
  | n + 15, h => absurd h (by omega)
end Go.Proofs.YtmbapmbpnnaanabGreat.Ld
