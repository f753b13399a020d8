import Derived.Test.YtbagfepdmmfegaaDoorK27
set_option linter.unusedVariables false
set_option linter.unusedSimpArgs false
/- A SLICE OF NUMBERS, read. -/
namespace Go.Proofs.YtbagfepdmmfegaaDoor
open Go.ChangeShapes Go.WideShapes Go.ChangeAt Go.RowKit

/-- numbers lie there -/
def I1At (W : World) (v : Value) (is : List Int) : Prop :=
  (v = .slice none 0 0 ∧ is = []) ∨ ∃ (ad : Addr) (cap : Nat), v = .slice (some ad) is.length cap ∧ ∀ (i : Nat) (n : Int), is[i]? = some n → W.cell? (ad.add i) = some (.int .i64 n)
theorem I1At.shape {W : World} {v : Value} {is : List Int} (h : I1At W v is) : ∃ pa cap, v = .slice pa is.length cap ∧
    ∀ (i : Nat) (n : Int), is[i]? = some n → ∃ ad, pa = some ad ∧ ad.block < W.heap.size ∧ W.cell? (ad.add i) = some (.int .i64 n) := by
  rcases h with ⟨rfl, rfl⟩ | ⟨ad, cap, rfl, h2⟩
  · exact ⟨none, 0, rfl, fun i o ho => by cases ho⟩
  · refine ⟨some ad, cap, rfl, fun i o ho => ?_⟩
    have c0 := h2 i o ho
    refine ⟨ad, rfl, ?_, c0⟩
    rcases Nat.lt_or_ge ad.block W.heap.size with h | h
    · exact h
    · unfold World.cell? at c0
      rw [Array.getElem?_eq_none (by rw [add_block]; exact h)] at c0
      cases c0

set_option maxRecDepth 100000 in
theorem ints_of {H : Type} {enc : TypeId × Value → H} {W : World} {base : Nat} {v0 : Value} {d0 : DataW H} {p : List MemPlace} (hv : Value.okWide Tryd.prog W .any base 38 v0) (h0 : DataW.Trod enc Tryd.prog W 0 (fun _ => true) true 38 v0 d0 p) :
    ∃ is : List Int, I1At W v0 is ∧ ∀ n ∈ is, inI64 n := by
  obtain ⟨a0, len, cap, rfl⟩ := okWide_slice Tryd.underlying38 hv
  obtain ⟨fuel, hf⟩ := h0
  rcases Go.Deep.open_slice Tryd.underlying38 hf with ⟨hcs, hx⟩ | ⟨a, len', cap', m, n, D, Pl, hcs, _, hl, hm, hmm, hx, hcell⟩
  · simp [Value.cells] at hcs
    obtain ⟨rfl, rfl, rfl⟩ := hcs
    exact ⟨[], .inl ⟨rfl, rfl⟩, fun o ho => (by cases ho)⟩
  · simp [Value.cells] at hcs
    obtain ⟨rfl, rfl, rfl⟩ := hcs
    have hm' : m = cap := by simpa using hmm
    subst hm'
    have each : ∀ i, i < len → ∃ o : Int, inI64 o ∧ W.cell? (a.add i) = some (.int .i64 o) := fun i hi => by
      obtain ⟨cs, h1, h2⟩ := hcell i (by omega)
      rw [cellsInt] at h1
      obtain ⟨_, hlen, hc⟩ := World.cells?_some h1
      obtain ⟨o, eo, _, wo⟩ := DataW.trod_int Tryd.underlying3 h2
      have c0 := hc 0 (by omega)
      rw [Go.Deep.add_add, Nat.mul_one, Nat.add_zero, eo] at c0
      exact ⟨o, wf_bd wo, c0⟩
    obtain ⟨l, hll, hp⟩ := list_of len each
    refine ⟨l, .inr ⟨a, m, by rw [hll], fun i o hi => (hp i o hi).2⟩, fun o ho => ?_⟩
    obtain ⟨i, hi⟩ := List.getElem?_of_mem ho
    exact (hp i o hi).1
end Go.Proofs.YtbagfepdmmfegaaDoor
