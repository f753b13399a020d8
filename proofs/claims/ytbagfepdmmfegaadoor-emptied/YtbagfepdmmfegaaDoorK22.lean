import Derived.Test.YtbagfepdmmfegaaDoorK21
import Derived.Test.YtbagfepdmmfegaaDoorChecked
import Derived.ProofKit
import Derived.OpenShut
import Derived.WideKeyArgs
import Derived.WideKeyElems4
import Derived.Deep.Slices
import Derived.Deep.DeepHandedRow
import Derived.Deep.DeepWitnessRowRef
import Derived.Stop.LaidErr
import Derived.SizedLaws
set_option linter.unusedVariables false
set_option linter.unusedSimpArgs false
/- WHAT A ROW GIVES: the script, the error's variable; what it asks behind the call. -/
namespace Go.Proofs.YtbagfepdmmfegaaDoor
open Go.ChangeShapes Go.WideShapes Go.ChangeAt Go.RowKit

theorem own : ownKnob Tryd.prog.godebug = none := by kernel_rfl
theorem laidOut : laidOutB Tryd.prog = true := by kernel_rfl
theorem gE : Tryd.prog.globalNamed "tithe/memory.errNoBlock" = some 0 := by kernel_rfl
theorem gEType : (Tryd.prog.globals[0]?).map (·.type) = some 123 := by kernel_rfl
theorem cellsES : Tryd.prog.cellsOf 159 = 1 := by kernel_rfl
theorem cellsStr : Tryd.prog.cellsOf 9 = 1 := by kernel_rfl
theorem starE : "*" ++ "errors.errorString" = "*errors.errorString" := by decide
theorem rowE (u : TypeId) (h : Tryd.prog.typeName? 3 u = some "*errors.errorString") : u = 142 :=
  typeName_ptr_named (nm := "errors.errorString") (by rw [starE]; kernel_rfl) (by kernel_rfl) (by decide) u (by rw [starE]; exact h)

set_option maxRecDepth 100000 in
theorem glob_of {W : World} (hL : laidMetH Tryd.prog [("tithe/memory.errNoBlock", Rows.laid_tithe_memory_errNoBlock)] W) : GlobAt W := by
  have hL' : laidMet Tryd.prog [("tithe/memory.errNoBlock", Rows.laid_tithe_memory_errNoBlock)] W := hL
  obtain ⟨a1, s1, hv1, hc1, hs1, hz1⟩ := laid_sentinel hL' gE gEType Tryd.underlying123 rowE Tryd.underlying142 Tryd.underlying159 rfl rfl Tryd.underlying9 cellsES cellsStr
  have hg1 : W.cell? ⟨0, 0, none⟩ = some (.iface 142 (.pointer (some a1))) := by simpa using World.var?_cell gE hv1 0
  refine ⟨_, hg1, ?_⟩
  rcases Nat.eq_zero_or_pos W.heap.size with h | h
  · unfold World.cell? at hg1
    rw [Array.getElem?_eq_none (by show W.heap.size ≤ 0; omega)] at hg1
    cases hg1
  · exact h

theorem wf_bd {n : Int} (h : (Lit.int .i64 n).wf = true) : -9223372036854775808 ≤ n ∧ n ≤ 9223372036854775807 := by
  simp only [Lit.wf, Bool.and_eq_true, decide_eq_true_eq] at h
  have a : IntKind.i64.min = -9223372036854775808 := by kernel_rfl
  have b : IntKind.i64.max = 9223372036854775807 := by kernel_rfl
  rw [a, b] at h
  exact h

theorem list_of {α : Type} {P : Nat → α → Prop} : ∀ n, (∀ i, i < n → ∃ o, P i o) → ∃ l : List α, l.length = n ∧ ∀ i o, l[i]? = some o → P i o := by
  intro n
  induction n with
  | zero => intro _; exact ⟨[], rfl, fun i o h => by cases h⟩
  | succ n ih =>
    intro h
    obtain ⟨l, hl, hp⟩ := ih (fun i hi => h i (by omega))
    obtain ⟨o, ho⟩ := h n (by omega)
    refine ⟨l ++ [o], by simp [hl], fun i o' hi => ?_⟩
    rcases Nat.lt_trichotomy i l.length with h1 | h1 | h1
    · rw [List.getElem?_append_left h1] at hi; exact hp i o' hi
    · subst h1
      rw [List.getElem?_concat_length] at hi
      obtain rfl := Option.some.inj hi
      rw [hl]; exact ho
    · rw [List.getElem?_eq_none (by simp; omega)] at hi; cases hi

theorem cellsOp : Tryd.prog.cellsOf 65 = 7 := by kernel_rfl
theorem cellsCf : Tryd.prog.cellsOf 26 = 3 := by kernel_rfl
theorem cellsInt : Tryd.prog.cellsOf 3 = 1 := by kernel_rfl

set_option maxRecDepth 100000 in
/-- three numbers -/
theorem trod_config {H : Type} {enc : TypeId × Value → H} {W : World} {fuel : Nat} {cs : List Value} {x : DataW H × List MemPlace} (h : DataW.trod enc Tryd.prog W 0 (fun _ => true) true fuel 26 cs = some x) :
    ∃ a b c : Int, cs = [.int .i64 a, .int .i64 b, .int .i64 c] := by
  obtain ⟨xs, k, _, _, hl, hxl, hf⟩ := DataW.trod_struct Tryd.underlying26 h
  rw [cellsCf] at hl
  have f0 := hf 0 _ rfl
  have f1 := hf 1 _ rfl
  have f2 := hf 2 _ rfl
  match xs, hxl, cs, hl with
  | [y0, y1, y2], _, [v0, v1, v2], _ =>
    simp [cellsInt] at f0 f1 f2
    obtain ⟨a, ea, _, _⟩ := DataW.trod_int Tryd.underlying3 f0
    obtain ⟨b, eb, _, _⟩ := DataW.trod_int Tryd.underlying3 f1
    obtain ⟨c, ec, _, _⟩ := DataW.trod_int Tryd.underlying3 f2
    simp at ea eb ec
    exact ⟨a, b, c, by rw [ea, eb, ec]⟩

set_option maxRecDepth 100000 in
theorem trod_op {H : Type} {enc : TypeId × Value → H} {W : World} {fuel : Nat} {cs : List Value} {x : DataW H × List MemPlace} (h : DataW.trod enc Tryd.prog W 0 (fun _ => true) true fuel 65 cs = some x) :
    ∃ o : O7, o.ok ∧ cs = o.vals := by
  obtain ⟨xs, k, _, _, hl, hxl, hf⟩ := DataW.trod_struct Tryd.underlying65 h
  rw [cellsOp] at hl
  have f0 := hf 0 _ rfl
  have f1 := hf 1 _ rfl
  have f2 := hf 2 _ rfl
  have f3 := hf 3 _ rfl
  have f4 := hf 4 _ rfl
  match xs, hxl, cs, hl with
  | [y0, y1, y2, y3, y4], _, [v0, v1, v2, v3, v4, v5, v6], _ =>
    simp [cellsInt] at f0 f1 f2 f3
    simp [cellsCf] at f4
    obtain ⟨n0, e0, _, _⟩ := DataW.trod_int Tryd.underlying3 f0
    obtain ⟨n1, e1, _, w1⟩ := DataW.trod_int Tryd.underlying3 f1
    obtain ⟨n2, e2, _, w2⟩ := DataW.trod_int Tryd.underlying3 f2
    obtain ⟨n3, e3, _, _⟩ := DataW.trod_int Tryd.underlying3 f3
    obtain ⟨a, b, c, e4⟩ := trod_config f4
    simp at e0 e1 e2 e3 e4
    have b1 := wf_bd w1
    have b2 := wf_bd w2
    exact ⟨⟨n0, n1, n2, n3, a, b, c⟩, ⟨b1.1, b1.2, b2.1, b2.2⟩, by rw [e0, e1, e2, e3, e4.1, e4.2.1, e4.2.2]; rfl⟩

set_option maxRecDepth 100000 in
theorem script_of {H : Type} {enc : TypeId × Value → H} {W : World} {base : Nat} {v0 : Value} {d0 : DataW H} {p : List MemPlace} (hv : Value.okWide Tryd.prog W .any base 22 v0) (h0 : DataW.Trod enc Tryd.prog W 0 (fun _ => true) true 22 v0 d0 p) :
    ∃ ops : List O7, ScriptAt W v0 ops ∧ (∀ o ∈ ops, o.ok) ∧ (ops.length = 0 ∨ ∃ es sp : List (DataW H), d0 = .slice es sp ∧ es.length = ops.length) := by
  obtain ⟨a0, len, cap, rfl⟩ := okWide_slice Tryd.underlying22 hv
  obtain ⟨fuel, hf⟩ := h0
  rcases Go.Deep.open_slice Tryd.underlying22 hf with ⟨hcs, hx⟩ | ⟨a, len', cap', m, n, D, Pl, hcs, _, hl, hm, hmm, hx, hcell⟩
  · simp [Value.cells] at hcs
    obtain ⟨rfl, rfl, rfl⟩ := hcs
    exact ⟨[], .inl ⟨rfl, rfl⟩, fun o ho => (by cases ho), .inl rfl⟩
  · simp [Value.cells] at hcs
    obtain ⟨rfl, rfl, rfl⟩ := hcs
    have hm' : m = cap := by simpa using hmm
    subst hm'
    have each : ∀ i, i < len → ∃ o : O7, o.ok ∧ ∀ j, j < 7 → W.cell? (a.add (i * 7 + j)) = o.vals[j]? := fun i hi => by
      obtain ⟨cs, h1, h2⟩ := hcell i (by omega)
      rw [cellsOp] at h1
      obtain ⟨_, hlen, hc⟩ := World.cells?_some h1
      obtain ⟨o, ho, rfl⟩ := trod_op h2
      exact ⟨o, ho, fun j hj => by rw [← Go.Deep.add_add]; exact hc j hj⟩
    obtain ⟨l, hll, hp⟩ := list_of len each
    refine ⟨l, .inr ⟨a, m, by rw [hll], fun t u hu => ?_⟩, fun o ho => ?_, ?_⟩
    · have ht : t < (encO l).length := by
        rcases Nat.lt_or_ge t (encO l).length with h | h
        · exact h
        · rw [List.getElem?_eq_none h] at hu; cases hu
      rw [encO_len] at ht
      have hi : t / 7 < l.length := by omega
      have hget := List.getElem?_eq_getElem hi
      have e := encO_get l (t / 7) _ hget (t % 7) (Nat.mod_lt _ (by omega))
      have hc := (hp (t / 7) _ hget).2 (t % 7) (Nat.mod_lt _ (by omega))
      rw [show t / 7 * 7 + t % 7 = t by omega] at e hc
      rw [hc, ← e]; exact hu
    · obtain ⟨i, hi⟩ := List.getElem?_of_mem ho
      exact (hp i o hi).1
    · simp only [Prod.mk.injEq] at hx
      exact .inr ⟨_, _, hx.1, by simp [hll]⟩
end Go.Proofs.YtbagfepdmmfegaaDoor

namespace Go.Proofs.YtbagfepdmmfegaaDoor
open Go.ChangeShapes Go.WideShapes Go.ChangeAt Go.RowKit

theorem kept_ext {W W' : World} (hE : Ext none1 W W') (may : MemPlace → Prop) : W.keptBut W' may := by
  refine ⟨hE.os, hE.output, fun i hi => ?_⟩
  rw [hE.block i hi (fun x => x)]
  cases h : W.heap[i]? with
  | none => rfl
  | some o => cases o <;> simp
theorem same_ext {W W' : World} (hE : Ext none1 W W') (x : MemPlace) (hx : x.block < W.heap.size) : W.sameAt W' x := by
  cases x with
  | cell b off => exact World.cell?_of_block (hE.block b hx (fun x => x))
  | map b => exact hE.block b hx (fun x => x)

/-- what lay there lies as it lay: the specification's word on the world behind the call -/
theorem post_ext {H : Type} {enc : TypeId × Value → H} {P : Program} {f : Func} {s : ChangeSpec} {apart fresh handsOn again : Bool} {W W' : World} {args : Array Value} {v : Value} {ds gs : List (DataW H)} {before pa pv : List MemPlace}
    (hW : DataW.Whole enc P f.params.toList s.vars apart W args.toList ds gs before)
    (hres : ∀ (b : Nat) (sp : Nat → Bool) (hd : Bool), DataW.TrodAll enc P W' b sp hd f.resultTypes.toList (v.resultList f.resultTypes.size) (s.fn H (ds ++ gs)).results [])
    (hargs : ∀ sp : Nat → Bool, (∀ p ∈ before, sp p.block = true) → DataW.TrodAll enc P W' 0 sp true f.params.toList args.toList (s.fn H (ds ++ gs)).args pa)
    (hvars : ∀ sp : Nat → Bool, (∀ p ∈ before, sp p.block = true) → DataW.TrodVars enc P W' sp s.vars (s.fn H (ds ++ gs)).vars pv)
    (hps : before = pa ++ pv) (hE : Ext none1 W W')
    (hok : ∀ (j : Nat) (t : TypeId) (r : Value), f.resultTypes[j]? = some t → (v.resultList f.resultTypes.size)[j]? = some r → Value.okWide P W' .any 0 t r) :
    s.post enc P f apart fresh handsOn again W args v W' := by
  have hlt := hW.lt
  have hold : ∀ p ∈ before, (fun b => decide (b < W.heap.size)) p.block = true := fun p hp => by simpa using hlt p hp
  refine ⟨ds, gs, before, [], pa, pv, hW, hres _ _ _, hargs _ hold, hvars _ hold, kept_ext hE _, fun _ => ?_⟩
  obtain ⟨_, _, _, _, _, hz, hn⟩ := hW
  refine ⟨hok, _, _, ([] ++ pa) ++ pv, ⟨[] ++ pa, pv, trodAll_append (hargs _ (fun _ _ => rfl)) (hres _ _ _), hvars _ (fun _ _ => rfl), rfl, ?_, ?_⟩, ?_⟩
  · intro b off hp
    have hp' : MemPlace.cell b off ∈ before := by rw [hps]; simpa using hp
    rw [World.frozen?_of_block (hE.block b (hlt _ hp') (fun x => x))]
    exact hz b off hp'
  · intro ha
    have := hn ha
    rw [hps] at this
    simpa using this
  · intro p hp _
    rw [hps]
    simpa using hp

set_option maxRecDepth 100000 in
/-- what a slice of steps may weigh -/
theorem bound_of {H : Type} {d0 : DataW H} {gs : List (DataW H)} {vs : List TypeId} {n : Nat} (hz : (DataW.weightsEach Tryd.prog (22 :: vs) (d0 :: gs)).all (· ≤ reachBytes) = true) (h : n = 0 ∨ ∃ es sp : List (DataW H), d0 = .slice es sp ∧ es.length = n) : n ≤ 2513169434843 := by
  rcases h with h | ⟨es, sp, rfl, h⟩
  · omega
  · have := sized_slice hz (j := 0) rfl rfl Tryd.underlying22
    rw [show Tryd.prog.bytesOf 65 = 56 by kernel_rfl] at this
    have : (es.length + sp.length) * 56 ≤ 140737488351232 := this
    omega
end Go.Proofs.YtbagfepdmmfegaaDoor
