import Derived.Test.YtbagfepdmmfegaaDoorK19
import Derived.Maps.AppendAt
set_option linter.unusedVariables false
set_option linter.unusedSimpArgs false
namespace Go.Proofs.YtbagfepdmmfegaaDoor
open Go.RowKit

/-- a step -/
structure O7 where
  k : Int
  on : Int
  a : Int
  b : Int
  h : Int
  n : Int
  s : Int
def O7.ok (o : O7) : Prop := -9223372036854775808 ≤ o.on ∧ o.on ≤ 9223372036854775807 ∧ -9223372036854775808 ≤ o.a ∧ o.a ≤ 9223372036854775807
def O7.vals (o : O7) : List Value := [.int .i64 o.k, .int .i64 o.on, .int .i64 o.a, .int .i64 o.b, .int .i64 o.h, .int .i64 o.n, .int .i64 o.s]
def encO (l : List O7) : List Value := l.flatMap O7.vals
theorem encO_len (l : List O7) : (encO l).length = l.length * 7 := by
  induction l with
  | nil => rfl
  | cons o t ih => simp only [encO, List.flatMap_cons, List.length_append, List.length_cons] at ih ⊢; rw [ih]; simp [O7.vals]; omega
theorem encO_get (l : List O7) (i : Nat) (o : O7) (hi : l[i]? = some o) (j : Nat) (hj : j < 7) : (encO l)[i * 7 + j]? = o.vals[j]? := by
  induction l generalizing i with
  | nil => cases hi
  | cons c t ih =>
    cases i with
    | zero =>
      obtain rfl : c = o := by simpa using hi
      show (c.vals ++ encO t)[0 * 7 + j]? = _
      rw [Nat.zero_mul, Nat.zero_add, List.getElem?_append_left (by simp [O7.vals]; exact hj)]
    | succ i =>
      have := ih i (by simpa using hi)
      show (c.vals ++ encO t)[(i + 1) * 7 + j]? = _
      rw [List.getElem?_append_right (by simp [O7.vals]; omega), show (i + 1) * 7 + j - c.vals.length = i * 7 + j by simp [O7.vals]; omega]
      exact this

def pre8 : List O7 := [⟨1, 0, 0, 0, 1, 2, 1⟩, ⟨2, 0, 0, 9, 0, 0, 0⟩, ⟨2, 0, 0, 9, 0, 0, 0⟩, ⟨4, 0, 20, 7, 0, 0, 0⟩, ⟨5, 0, 20, 0, 0, 0, 0⟩, ⟨3, 0, 0, 0, 0, 0, 0⟩, ⟨7, 0, 1, 1, 0, 0, 0⟩, ⟨9, 0, 1, 0, 0, 0, 0⟩]

/-- the row of all steps -/
def RowO (V : World) (g : Nat) (l : List O7) : Prop := ∃ cur fr, V.heap[g]? = some (.cells cur 65 fr) ∧ ∀ (t : Nat) (u : Value), (encO l)[t]? = some u → cur[t]? = some u
theorem RowO.cell {V : World} {g : Nat} {l : List O7} (h : RowO V g l) (i : Nat) (o : O7) (hi : l[i]? = some o) : V.cell? ⟨g, i * 7, none⟩ = some (.int .i64 o.k) ∧ V.cell? ⟨g, i * 7 + 1, none⟩ = some (.int .i64 o.on) ∧ V.cell? ⟨g, i * 7 + 2, none⟩ = some (.int .i64 o.a) ∧ V.cell? ⟨g, i * 7 + 3, none⟩ = some (.int .i64 o.b) ∧
    V.cell? ⟨g, i * 7 + 4, none⟩ = some (.int .i64 o.h) ∧ V.cell? ⟨g, i * 7 + 5, none⟩ = some (.int .i64 o.n) ∧ V.cell? ⟨g, i * 7 + 6, none⟩ = some (.int .i64 o.s) := by
  obtain ⟨cur, fr, h1, h2⟩ := h
  have key : ∀ j u, j < 7 → o.vals[j]? = some u → V.cell? ⟨g, i * 7 + j, none⟩ = some u := fun j u hj hu => by
    rw [cell_of h1]; exact h2 _ _ ((encO_get l i o hi j hj).trans hu)
  exact ⟨key 0 _ (by omega) rfl, key 1 _ (by omega) rfl, key 2 _ (by omega) rfl, key 3 _ (by omega) rfl, key 4 _ (by omega) rfl, key 5 _ (by omega) rfl, key 6 _ (by omega) rfl⟩

theorem infoOp : (Tryd.prog.info? 65).map (fun i => (i.zero, i.size, i.bytes)) = some (some (.agg #[.int .i64 0, .int .i64 0, .int .i64 0, .int .i64 0, .int .i64 0, .int .i64 0, .int .i64 0]), 7, 56) := by kernel_rfl

/-- what is appended: a script, in memory -/
def ScriptAt (W : World) (sv : Value) (ops : List O7) : Prop :=
  (sv = .slice none 0 0 ∧ ops = []) ∨ ∃ ad c, sv = .slice (some ad) ops.length c ∧ ∀ (t : Nat) (u : Value), (encO ops)[t]? = some u → W.cell? (ad.add t) = some u

theorem run_append_none (ty : TypeId) (g : Nat) (w : World) : (Builtin.append_ #[22, 22] ty #[.slice (some ⟨g, 0, none⟩) 8 8, .slice none 0 0]).run Tryd.prog w = .ok (.slice (some ⟨g, 0, none⟩) 8 8) w := by
  obtain ⟨i0, hi, hi0, hi1, hi2⟩ := info_parts infoOp
  kernel_rfl

theorem oneCell_encO (l : List O7) : ∀ u ∈ encO l, u.oneCell' = true := by
  intro u hu
  obtain ⟨o, _, ho⟩ := List.mem_flatMap.1 hu
  simp [O7.vals] at ho
  rcases ho with rfl | rfl | rfl | rfl | rfl | rfl | rfl <;> rfl

/-- 'append(all, script...)' -/
theorem run_appO (ty : TypeId) (W : World) (base g : Nat) (sv : Value) (ops : List O7) (hs : ScriptAt W sv ops) (hn : ops.length ≤ 2513169434843) (hb : base ≤ g) (hg : W.heap[g]? = some (.cells (encO pre8).toArray 65 (0, 0))) :
    ∃ g' cap w', (Builtin.append_ #[22, 22] ty #[.slice (some ⟨g, 0, none⟩) 8 8, sv]).run Tryd.prog W = .ok (.slice (some ⟨g', 0, none⟩) (8 + ops.length) cap) w' ∧ RowO w' g' (pre8 ++ ops) ∧ W.grownBy w' (some g) ∧ base ≤ g' ∧ g' < w'.heap.size := by
  have hgl := lt_of_heap hg
  rcases hs with ⟨rfl, rfl⟩ | ⟨ad, c, rfl, hc⟩
  · refine ⟨g, 8, W, run_append_none ty g W, ?_, ⟨rfl, rfl, rfl, Nat.le_refl _, fun _ _ _ => rfl⟩, hb, hgl⟩
    exact ⟨_, _, hg, fun t u hu => by rw [List.append_nil] at hu; simpa using hu⟩
  · obtain ⟨i0, hi, hi0, hi1, hi2⟩ := info_parts infoOp
    have hown : W.ownsRow base 65 7 (.slice (some ⟨g, 0, none⟩) 8 8) 8 (encO pre8) := ⟨rfl, .inr ⟨g, 8, _, rfl, hb, hg, Nat.le_refl _, by unfold maxLen; omega, rfl, by rfl⟩⟩
    obtain ⟨v', w', hr, h2, h3, _, _⟩ := run_append_own_at (P := Tryd.prog) W base 22 ty 65 i0 _ 7 56 Tryd.underlying22 hi hi0 hi1 hi2 rfl (by decide) _ 8 _ hown ad ops.length c (encO ops) (encO_len ops) hc (oneCell_encO ops) (by unfold maxLen; omega) (by omega) (by omega)
    obtain ⟨g', cap, rfl, hb', hlt⟩ := h2.form (by omega)
    refine ⟨g', cap, w', hr, ?_, h3, hb', hlt⟩
    rcases h2.2 with ⟨e, _⟩ | ⟨g2, cap2, cur, e, _, hh, _, _, hsz, htk⟩
    · cases e
    · obtain rfl : g' = g2 := by cases e; rfl
      refine ⟨cur, _, hh, fun t u hu => ?_⟩
      have e2 : encO (pre8 ++ ops) = encO pre8 ++ encO ops := by simp [encO]
      rw [e2, ← htk] at hu
      rw [List.getElem?_take] at hu
      split at hu
      · simpa using hu
      · cases hu
end Go.Proofs.YtbagfepdmmfegaaDoor
