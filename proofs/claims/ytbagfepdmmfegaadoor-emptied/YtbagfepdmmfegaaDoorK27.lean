import Derived.Test.YtbagfepdmmfegaaDoorK22
import Derived.Test.YtbagfepdmmfegaaDoorK26
set_option linter.unusedVariables false
set_option linter.unusedSimpArgs false
/- THE ARGUMENTS OF A FARM'S STATEMENTS, read: a config by value, a script of steps, numbers. -/
namespace Go.Proofs.YtbagfepdmmfegaaDoor
open Go.ChangeShapes Go.WideShapes Go.ChangeAt Go.RowKit

def inI64 (n : Int) : Prop := -9223372036854775808 ≤ n ∧ n ≤ 9223372036854775807
theorem cellsSt : Tryd.prog.cellsOf 32 = 3 := by kernel_rfl

set_option maxRecDepth 100000 in
theorem trod_three {H : Type} {enc : TypeId × Value → H} {W : World} {fuel : Nat} {cs : List Value} {x : DataW H × List MemPlace} (h : DataW.trod enc Tryd.prog W 0 (fun _ => true) true fuel 26 cs = some x) :
    ∃ a b c : Int, cs = [.int .i64 a, .int .i64 b, .int .i64 c] ∧ inI64 a ∧ inI64 b ∧ inI64 c := by
  obtain ⟨xs, k, _, _, hl, hxl, hf⟩ := DataW.trod_struct Tryd.underlying26 h
  rw [cellsCf] at hl
  have f0 := hf 0 _ rfl
  have f1 := hf 1 _ rfl
  have f2 := hf 2 _ rfl
  match xs, hxl, cs, hl with
  | [y0, y1, y2], _, [v0, v1, v2], _ =>
    simp [cellsInt] at f0 f1 f2
    obtain ⟨a, ea, _, wa⟩ := DataW.trod_int Tryd.underlying3 f0
    obtain ⟨b, eb, _, wb⟩ := DataW.trod_int Tryd.underlying3 f1
    obtain ⟨c, ec, _, wc⟩ := DataW.trod_int Tryd.underlying3 f2
    simp at ea eb ec
    exact ⟨a, b, c, by rw [ea, eb, ec], wf_bd wa, wf_bd wb, wf_bd wc⟩

set_option maxRecDepth 100000 in
theorem trod_step {H : Type} {enc : TypeId × Value → H} {W : World} {fuel : Nat} {cs : List Value} {x : DataW H × List MemPlace} (h : DataW.trod enc Tryd.prog W 0 (fun _ => true) true fuel 32 cs = some x) :
    ∃ o : O3, o.ok ∧ cs = [.int .i64 o.k, .int .i64 o.a, .int .i64 o.b] := by
  obtain ⟨xs, k, _, _, hl, hxl, hf⟩ := DataW.trod_struct Tryd.underlying32 h
  rw [cellsSt] at hl
  have f0 := hf 0 _ rfl
  have f1 := hf 1 _ rfl
  have f2 := hf 2 _ rfl
  match xs, hxl, cs, hl with
  | [y0, y1, y2], _, [v0, v1, v2], _ =>
    simp [cellsInt] at f0 f1 f2
    obtain ⟨a, ea, _, wa⟩ := DataW.trod_int Tryd.underlying3 f0
    obtain ⟨b, eb, _, wb⟩ := DataW.trod_int Tryd.underlying3 f1
    obtain ⟨c, ec, _, wc⟩ := DataW.trod_int Tryd.underlying3 f2
    simp at ea eb ec
    have b1 := wf_bd wb
    have b2 := wf_bd wc
    exact ⟨⟨a, b, c⟩, ⟨b1.1, b1.2, b2.1, b2.2⟩, by rw [ea, eb, ec]⟩

set_option maxRecDepth 100000 in
theorem config_of {H : Type} {enc : TypeId × Value → H} {W : World} {base : Nat} {v0 : Value} {d0 : DataW H} {p : List MemPlace} (hv : Value.okWide Tryd.prog W .any base 26 v0) (h0 : DataW.Trod enc Tryd.prog W 0 (fun _ => true) true 26 v0 d0 p) :
    ∃ a b c : Int, v0 = .agg #[.int .i64 a, .int .i64 b, .int .i64 c] ∧ inI64 a ∧ inI64 b ∧ inI64 c := by
  obtain ⟨cs, rfl, _⟩ := okWide_struct Tryd.underlying26 hv
  obtain ⟨fuel, hf⟩ := h0
  obtain ⟨a, b, c, e, r⟩ := trod_three hf
  refine ⟨a, b, c, ?_, r⟩
  have e : cs.toList = [.int .i64 a, .int .i64 b, .int .i64 c] := by simpa [Value.cells] using e
  congr 1
  exact Array.toList_inj.1 e

set_option maxRecDepth 100000 in
theorem int_of {H : Type} {enc : TypeId × Value → H} {W : World} {base : Nat} {v0 : Value} {d0 : DataW H} {p : List MemPlace} (hv : Value.okWide Tryd.prog W .any base 3 v0) (h0 : DataW.Trod enc Tryd.prog W 0 (fun _ => true) true 3 v0 d0 p) :
    ∃ a : Int, v0 = .int .i64 a ∧ inI64 a := by
  obtain ⟨fuel, hf⟩ := h0
  obtain ⟨a, ea, _, wa⟩ := DataW.trod_int Tryd.underlying3 hf
  obtain ⟨n, rfl⟩ := okWide_int Tryd.underlying3 hv
  simp [Value.cells] at ea
  subst ea
  exact ⟨_, rfl, wf_bd wa⟩

set_option maxRecDepth 100000 in
theorem script3_of {H : Type} {enc : TypeId × Value → H} {W : World} {base : Nat} {v0 : Value} {d0 : DataW H} {p : List MemPlace} (hv : Value.okWide Tryd.prog W .any base 27 v0) (h0 : DataW.Trod enc Tryd.prog W 0 (fun _ => true) true 27 v0 d0 p) :
    ∃ ops : List O3, S3At W v0 ops ∧ (∀ o ∈ ops, o.ok) ∧ (ops.length = 0 ∨ ∃ es sp : List (DataW H), d0 = .slice es sp ∧ es.length = ops.length) := by
  obtain ⟨a0, len, cap, rfl⟩ := okWide_slice Tryd.underlying27 hv
  obtain ⟨fuel, hf⟩ := h0
  rcases Go.Deep.open_slice Tryd.underlying27 hf with ⟨hcs, hx⟩ | ⟨a, len', cap', m, n, D, Pl, hcs, _, hl, hm, hmm, hx, hcell⟩
  · simp [Value.cells] at hcs
    obtain ⟨rfl, rfl, rfl⟩ := hcs
    exact ⟨[], .inl ⟨rfl, rfl⟩, fun o ho => (by cases ho), .inl rfl⟩
  · simp [Value.cells] at hcs
    obtain ⟨rfl, rfl, rfl⟩ := hcs
    have hm' : m = cap := by simpa using hmm
    subst hm'
    have each : ∀ i, i < len → ∃ o : O3, o.ok ∧ W.cell? (a.add (i * 3)) = some (.int .i64 o.k) ∧ W.cell? (a.add (i * 3 + 1)) = some (.int .i64 o.a) ∧ W.cell? (a.add (i * 3 + 2)) = some (.int .i64 o.b) := fun i hi => by
      obtain ⟨cs, h1, h2⟩ := hcell i (by omega)
      rw [cellsSt] at h1
      obtain ⟨_, hlen, hc⟩ := World.cells?_some h1
      obtain ⟨o, ho, rfl⟩ := trod_step h2
      have c0 := hc 0 (by omega)
      have c1 := hc 1 (by omega)
      have c2 := hc 2 (by omega)
      rw [Go.Deep.add_add] at c0 c1 c2
      exact ⟨o, ho, c0, c1, c2⟩
    obtain ⟨l, hll, hp⟩ := list_of len each
    refine ⟨l, .inr ⟨a, m, by rw [hll], fun i o hi => (hp i o hi).2⟩, fun o ho => ?_, ?_⟩
    · obtain ⟨i, hi⟩ := List.getElem?_of_mem ho
      exact (hp i o hi).1
    · simp only [Prod.mk.injEq] at hx
      exact .inr ⟨_, _, hx.1, by simp [hll]⟩

set_option maxRecDepth 100000 in
/-- what a slice of steps may weigh -/
theorem bound3_of {H : Type} {dc d0 : DataW H} {gs : List (DataW H)} {vs : List TypeId} {n : Nat} (hz : (DataW.weightsEach Tryd.prog (26 :: 27 :: vs) (dc :: d0 :: gs)).all (· ≤ reachBytes) = true) (h : n = 0 ∨ ∃ es sp : List (DataW H), d0 = .slice es sp ∧ es.length = n) : n ≤ 5864062014806 := by
  rcases h with h | ⟨es, sp, rfl, h⟩
  · omega
  · have := sized_slice hz (j := 1) rfl rfl Tryd.underlying27
    rw [show Tryd.prog.bytesOf 32 = 24 by kernel_rfl] at this
    have : (es.length + sp.length) * 24 ≤ 140737488351232 := this
    omega
end Go.Proofs.YtbagfepdmmfegaaDoor
