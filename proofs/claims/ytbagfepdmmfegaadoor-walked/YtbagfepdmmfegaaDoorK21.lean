import Derived.Test.YtbagfepdmmfegaaDoorK20
import Derived.Great.Walk
set_option linter.unusedVariables false
set_option linter.unusedSimpArgs false
namespace Go.Proofs.YtbagfepdmmfegaaDoor
open Go.RowKit

theorem ScriptAt.keep {W W' : World} {sv : Value} {ops : List O7} (h : ScriptAt W sv ops) (hE : Ext none1 W W') : ScriptAt W' sv ops := by
  rcases h with h | ⟨ad, c, h1, h2⟩
  · exact .inl h
  · refine .inr ⟨ad, c, h1, fun t u hu => ?_⟩
    have h3 := h2 t u hu
    have hb : (ad.add t).block < W.heap.size := by
      rcases Nat.lt_or_ge (ad.add t).block W.heap.size with hl | hl
      · exact hl
      · unfold World.cell? at h3
        rw [Array.getElem?_eq_none hl] at h3
        cases h3
    unfold World.cell? at h3 ⊢
    rw [hE.block _ hb (fun x => x)]
    exact h3

theorem wpList_buildAs {P : Program} {ops : Array Oper} {rest : List Oper} {o : Oper} {a : Act} {w : World} {Q : Exit → Act → World → Prop} (hg : o.guard = none) (t : TypeId) (parts : Array (Nat × Operand)) (ho : o.op = .build t parts) (d : Nat) (hd : o.dst = some d) (cells : Array Value)
    (hf : P.built t (parts.map fun (i, x) => (i, a.eval x)).toList = some cells) (h : wpList P ops Q rest (a.put (some d) (.agg cells)) w) : wpList P ops Q (o :: rest) a w :=
  wpList_build hg t parts ho (by rw [hf]; rfl) (by rw [hf, hd]; exact h)

/-- the walk stands here -/
def Stand (p : Prop) : Prop := p
theorem stand_at {p : Prop} (h : Stand p) : p := h
theorem wpList_appEq {ops : Array Oper} {rest : List Oper} {o : Oper} {a : Act} {Q : Exit → Act → World → Prop} {W : World} (hgd : o.guard = none) (s x : Operand) (t : TypeId)
    (ho : o.op = .call { callee := .builtin .append, args := #[s, x], argTypes := #[t, t] }) (sv xv v' : Value) (w' : World) (hs : a.eval s = sv) (hx : a.eval x = xv) (hr : (Builtin.append_ #[t, t] o.type #[sv, xv]).run Tryd.prog W = .ok v' w')
    (h : wpList Tryd.prog ops Q rest (a.put o.dst v') w') : wpList Tryd.prog ops Q (o :: rest) a W :=
  wpList_plain hgd fun _ hK => by
    unfold Oper.wp execOp
    simp only [ho, resolve, invoke, builtin, Sem.run_bind, Sem.run_pure, Result.andThen_ok, List.map_toArray, List.map_cons, List.map_nil, hs, hx, hr]
    exact hK _ _ h

theorem pre8_ok : ∀ o ∈ pre8, o.ok := by
  intro o ho
  simp only [pre8, List.mem_cons, List.not_mem_nil, or_false] at ho
  rcases ho with rfl | rfl | rfl | rfl | rfl | rfl | rfl | rfl <;> (unfold O7.ok; decide)
theorem pre8_arr : (encO pre8).toArray = #[.int .i64 1, .int .i64 0, .int .i64 0, .int .i64 0, .int .i64 1, .int .i64 2, .int .i64 1, .int .i64 2, .int .i64 0, .int .i64 0, .int .i64 9, .int .i64 0, .int .i64 0, .int .i64 0, .int .i64 2, .int .i64 0, .int .i64 0, .int .i64 9, .int .i64 0, .int .i64 0, .int .i64 0, .int .i64 4, .int .i64 0, .int .i64 20, .int .i64 7, .int .i64 0, .int .i64 0, .int .i64 0, .int .i64 5, .int .i64 0, .int .i64 20, .int .i64 0, .int .i64 0, .int .i64 0, .int .i64 0, .int .i64 3, .int .i64 0, .int .i64 0, .int .i64 0, .int .i64 0, .int .i64 0, .int .i64 0, .int .i64 7, .int .i64 0, .int .i64 1, .int .i64 1, .int .i64 0, .int .i64 0, .int .i64 0, .int .i64 9, .int .i64 0, .int .i64 1, .int .i64 0, .int .i64 0, .int .i64 0, .int .i64 0] := rfl
theorem two_heap (W : World) : ((W.alloc (.cells #[.slice none 0 0] 63)).alloc (.cells #[.int .i64 1, .int .i64 0, .int .i64 0, .int .i64 0, .int .i64 1, .int .i64 2, .int .i64 1, .int .i64 2, .int .i64 0, .int .i64 0, .int .i64 9, .int .i64 0, .int .i64 0, .int .i64 0, .int .i64 2, .int .i64 0, .int .i64 0, .int .i64 9, .int .i64 0, .int .i64 0, .int .i64 0, .int .i64 4, .int .i64 0, .int .i64 20, .int .i64 7, .int .i64 0, .int .i64 0, .int .i64 0, .int .i64 5, .int .i64 0, .int .i64 20, .int .i64 0, .int .i64 0, .int .i64 0, .int .i64 0, .int .i64 3, .int .i64 0, .int .i64 0, .int .i64 0, .int .i64 0, .int .i64 0, .int .i64 0, .int .i64 7, .int .i64 0, .int .i64 1, .int .i64 1, .int .i64 0, .int .i64 0, .int .i64 0, .int .i64 9, .int .i64 0, .int .i64 1, .int .i64 0, .int .i64 0, .int .i64 0, .int .i64 0] 65)).heap[W.heap.size]? = some (.cells #[.slice none 0 0] 63) ∧ ((W.alloc (.cells #[.slice none 0 0] 63)).alloc (.cells #[.int .i64 1, .int .i64 0, .int .i64 0, .int .i64 0, .int .i64 1, .int .i64 2, .int .i64 1, .int .i64 2, .int .i64 0, .int .i64 0, .int .i64 9, .int .i64 0, .int .i64 0, .int .i64 0, .int .i64 2, .int .i64 0, .int .i64 0, .int .i64 9, .int .i64 0, .int .i64 0, .int .i64 0, .int .i64 4, .int .i64 0, .int .i64 20, .int .i64 7, .int .i64 0, .int .i64 0, .int .i64 0, .int .i64 5, .int .i64 0, .int .i64 20, .int .i64 0, .int .i64 0, .int .i64 0, .int .i64 0, .int .i64 3, .int .i64 0, .int .i64 0, .int .i64 0, .int .i64 0, .int .i64 0, .int .i64 0, .int .i64 7, .int .i64 0, .int .i64 1, .int .i64 1, .int .i64 0, .int .i64 0, .int .i64 0, .int .i64 9, .int .i64 0, .int .i64 1, .int .i64 0, .int .i64 0, .int .i64 0, .int .i64 0] 65)).heap[W.heap.size + 1]? = some (.cells (encO pre8).toArray 65 (0, 0)) := by
  rw [pre8_arr]; exact heap2 W _ _
theorem two_ext (W : World) : Ext none1 W ((W.alloc (.cells #[.slice none 0 0] 63)).alloc (.cells #[.int .i64 1, .int .i64 0, .int .i64 0, .int .i64 0, .int .i64 1, .int .i64 2, .int .i64 1, .int .i64 2, .int .i64 0, .int .i64 0, .int .i64 9, .int .i64 0, .int .i64 0, .int .i64 0, .int .i64 2, .int .i64 0, .int .i64 0, .int .i64 9, .int .i64 0, .int .i64 0, .int .i64 0, .int .i64 4, .int .i64 0, .int .i64 20, .int .i64 7, .int .i64 0, .int .i64 0, .int .i64 0, .int .i64 5, .int .i64 0, .int .i64 20, .int .i64 0, .int .i64 0, .int .i64 0, .int .i64 0, .int .i64 3, .int .i64 0, .int .i64 0, .int .i64 0, .int .i64 0, .int .i64 0, .int .i64 0, .int .i64 7, .int .i64 0, .int .i64 1, .int .i64 1, .int .i64 0, .int .i64 0, .int .i64 0, .int .i64 9, .int .i64 0, .int .i64 1, .int .i64 0, .int .i64 0, .int .i64 0, .int .i64 0] 65)) := ((Ext.refl _ _).alloc _).alloc _
theorem two_size (W : World) : ((W.alloc (.cells #[.slice none 0 0] 63)).alloc (.cells #[.int .i64 1, .int .i64 0, .int .i64 0, .int .i64 0, .int .i64 1, .int .i64 2, .int .i64 1, .int .i64 2, .int .i64 0, .int .i64 0, .int .i64 9, .int .i64 0, .int .i64 0, .int .i64 0, .int .i64 2, .int .i64 0, .int .i64 0, .int .i64 9, .int .i64 0, .int .i64 0, .int .i64 0, .int .i64 4, .int .i64 0, .int .i64 20, .int .i64 7, .int .i64 0, .int .i64 0, .int .i64 0, .int .i64 5, .int .i64 0, .int .i64 20, .int .i64 0, .int .i64 0, .int .i64 0, .int .i64 0, .int .i64 3, .int .i64 0, .int .i64 0, .int .i64 0, .int .i64 0, .int .i64 0, .int .i64 0, .int .i64 7, .int .i64 0, .int .i64 1, .int .i64 1, .int .i64 0, .int .i64 0, .int .i64 0, .int .i64 9, .int .i64 0, .int .i64 1, .int .i64 0, .int .i64 0, .int .i64 0, .int .i64 0] 65)).heap.size = W.heap.size + 2 := by simp

/-- behind the append: what the loop goes over -/
structure Start (W w3 : World) (g : Nat) (ops : List O7) : Prop where
  glob : GlobAt w3
  ext : Ext none1 W w3
  box : w3.heap[W.heap.size]? = some (.cells #[.slice none 0 0] 63 (0, 0))
  row : RowO w3 g (pre8 ++ ops)
  lo : W.heap.size < g
  hi : g < w3.heap.size
theorem start_of (W : World) (sv : Value) (ops : List O7) (hG : GlobAt W) (hs : ScriptAt W sv ops) (hn : ops.length ≤ 2513169434843) :
    ∃ g cap w3, (Builtin.append_ #[22, 22] 22 #[.slice (some ⟨W.heap.size + 1, 0, none⟩) 8 8, sv]).run Tryd.prog ((W.alloc (.cells #[.slice none 0 0] 63)).alloc (.cells #[.int .i64 1, .int .i64 0, .int .i64 0, .int .i64 0, .int .i64 1, .int .i64 2, .int .i64 1, .int .i64 2, .int .i64 0, .int .i64 0, .int .i64 9, .int .i64 0, .int .i64 0, .int .i64 0, .int .i64 2, .int .i64 0, .int .i64 0, .int .i64 9, .int .i64 0, .int .i64 0, .int .i64 0, .int .i64 4, .int .i64 0, .int .i64 20, .int .i64 7, .int .i64 0, .int .i64 0, .int .i64 0, .int .i64 5, .int .i64 0, .int .i64 20, .int .i64 0, .int .i64 0, .int .i64 0, .int .i64 0, .int .i64 3, .int .i64 0, .int .i64 0, .int .i64 0, .int .i64 0, .int .i64 0, .int .i64 0, .int .i64 7, .int .i64 0, .int .i64 1, .int .i64 1, .int .i64 0, .int .i64 0, .int .i64 0, .int .i64 9, .int .i64 0, .int .i64 1, .int .i64 0, .int .i64 0, .int .i64 0, .int .i64 0] 65)) = .ok (.slice (some ⟨g, 0, none⟩) (8 + ops.length) cap) w3 ∧ Start W w3 g ops := by
  have hb := two_heap W
  have hE2 := two_ext W
  have hs2 := two_size W
  have hg0 : 0 < W.heap.size := let ⟨_, h⟩ := hG; h.2
  obtain ⟨g, cap, w3, hr, hrow, hgr, hbg, hgl⟩ := run_appO 22 ((W.alloc (.cells #[.slice none 0 0] 63)).alloc (.cells #[.int .i64 1, .int .i64 0, .int .i64 0, .int .i64 0, .int .i64 1, .int .i64 2, .int .i64 1, .int .i64 2, .int .i64 0, .int .i64 0, .int .i64 9, .int .i64 0, .int .i64 0, .int .i64 0, .int .i64 2, .int .i64 0, .int .i64 0, .int .i64 9, .int .i64 0, .int .i64 0, .int .i64 0, .int .i64 4, .int .i64 0, .int .i64 20, .int .i64 7, .int .i64 0, .int .i64 0, .int .i64 0, .int .i64 5, .int .i64 0, .int .i64 20, .int .i64 0, .int .i64 0, .int .i64 0, .int .i64 0, .int .i64 3, .int .i64 0, .int .i64 0, .int .i64 0, .int .i64 0, .int .i64 0, .int .i64 0, .int .i64 7, .int .i64 0, .int .i64 1, .int .i64 1, .int .i64 0, .int .i64 0, .int .i64 0, .int .i64 9, .int .i64 0, .int .i64 1, .int .i64 0, .int .i64 0, .int .i64 0, .int .i64 0] 65)) (W.heap.size + 1) (W.heap.size + 1) sv ops (hs.keep hE2) hn (Nat.le_refl _) hb.2
  generalize ((W.alloc (.cells #[.slice none 0 0] 63)).alloc (.cells #[.int .i64 1, .int .i64 0, .int .i64 0, .int .i64 0, .int .i64 1, .int .i64 2, .int .i64 1, .int .i64 2, .int .i64 0, .int .i64 0, .int .i64 9, .int .i64 0, .int .i64 0, .int .i64 0, .int .i64 2, .int .i64 0, .int .i64 0, .int .i64 9, .int .i64 0, .int .i64 0, .int .i64 0, .int .i64 4, .int .i64 0, .int .i64 20, .int .i64 7, .int .i64 0, .int .i64 0, .int .i64 0, .int .i64 5, .int .i64 0, .int .i64 20, .int .i64 0, .int .i64 0, .int .i64 0, .int .i64 0, .int .i64 3, .int .i64 0, .int .i64 0, .int .i64 0, .int .i64 0, .int .i64 0, .int .i64 0, .int .i64 7, .int .i64 0, .int .i64 1, .int .i64 1, .int .i64 0, .int .i64 0, .int .i64 0, .int .i64 9, .int .i64 0, .int .i64 1, .int .i64 0, .int .i64 0, .int .i64 0, .int .i64 0] 65)) = w2 at *
  have hE3 : Ext (one (W.heap.size + 1)) w2 w3 := ⟨hgr.os, hgr.tape, hgr.output, hgr.size, fun k hk hn => hgr.block k hk (fun e => hn (Option.some.inj e))⟩
  have hE : Ext none1 W w3 := hE2.trans' hE3 (fun j hj e => by have : j = W.heap.size + 1 := e; omega)
  exact ⟨g, cap, w3, hr, hG.keep hE (fun x => x), hE, hE3.keep hb.1 (fun e => by have : W.heap.size = W.heap.size + 1 := e; omega), hrow, by omega, hgl⟩

theorem step_both {PA : World → Nat → (Nat → Prop) → Ti.St → Prop} {big : Prop} (F : Face PA big) (W : World) (wl base : Nat) (foot : Nat → Prop) (L : List Ent) (hA : AllAt PA W wl base foot L) (hbs : base ≤ W.heap.size) (hL : L.length ≤ 2513169434900) (o : O7) (ho : o.ok) (hL0 : 0 < L.length ∨ (o.k = 1 ∧ Ti.okConfig o.h o.n o.s = true))
    (hdone : ∀ (W : World) (x r : Nat) (fp : Nat → Prop) (S : Ti.St), PairAt PA W x r fp S → Calls Tryd.prog 45 #[.agg #[.pointer (some ⟨x, 0, none⟩), .pointer (some ⟨r, 0, none⟩)], .agg #[.int .i64 o.k, .int .i64 o.on, .int .i64 o.a, .int .i64 o.b, .int .i64 o.h, .int .i64 o.n, .int .i64 o.s]] W fun e W' => e = .returned (.bool true) ∧ ∃ S', PPost PA W W' x r fp S') :
    ∃ m', L.length ≤ m' ∧ m' ≤ L.length + 1 ∧ 0 < m' ∧ Calls Tryd.prog 26 #[.pointer (some ⟨wl, 0, none⟩), .agg #[.int .i64 o.k, .int .i64 o.on, .int .i64 o.a, .int .i64 o.b, .int .i64 o.h, .int .i64 o.n, .int .i64 o.s]] W fun e W' =>
      e = .returned (.bool true) ∧ AllPost PA W W' wl base foot m' := by
  obtain ⟨k, on, a, b, h, n, s⟩ := o
  dsimp only at hL0 hdone ⊢
  by_cases hk : k = 1
  · subst hk
    refine ⟨_, ?_, ?_, ?_, step_new F W wl base foot L hA hbs hL on a b h n s⟩
    · omega
    · split <;> omega
    · rcases hL0 with h0 | ⟨_, h1⟩
      · omega
      · rw [if_pos h1]; omega
  · rcases hL0 with h0 | ⟨h1, _⟩
    · exact ⟨_, Nat.le_refl _, by omega, h0, step_other F W wl base foot L hA h0 hL k on a b h n s hk ho.1 ho.2.1 hdone⟩
    · exact absurd h1 hk

theorem AllPost.len {PA : World → Nat → (Nat → Prop) → Ti.St → Prop} {W W' : World} {wl base m : Nat} {foot : Nat → Prop} (h : AllPost PA W W' wl base foot m) (hm : 0 < m) : ∃ g cap, W'.cell? ⟨wl, 0, none⟩ = some (.slice (some ⟨g, 0, none⟩) m cap) := by
  obtain ⟨foot', L', hl, hA, _, _⟩ := h
  obtain ⟨v, b1, b2, _⟩ := hA.box
  obtain ⟨g, cap, rfl, _, _⟩ := b2.form (by omega)
  rw [hl] at b1
  exact ⟨g, cap, by rw [cell_of b1]; rfl⟩
theorem RowO.keep {X : Nat → Prop} {V V' : World} {g : Nat} {l : List O7} (h : RowO V g l) (hE : Ext X V V') (hx : ¬ X g) : RowO V' g l := let ⟨c, f, a, b⟩ := h; ⟨c, f, hE.keep a hx, b⟩

set_option maxRecDepth 100000 in
set_option maxHeartbeats 4000000 in
theorem plays_any {PA : World → Nat → (Nat → Prop) → Ti.St → Prop} {big : Prop} (F : Face PA big) (W : World) (sv : Value) (ops : List O7) (last : Int) (hG : GlobAt W) (hs : ScriptAt W sv ops) (hn : ops.length ≤ 2513169434843) (hok : ∀ o ∈ ops, o.ok) (l1 : 1 ≤ last) (l9 : last ≤ 9)
    (hd : ∀ o : O7, o.k ≤ last → o.ok → ∀ (W : World) (x r : Nat) (fp : Nat → Prop) (S : Ti.St), PairAt PA W x r fp S → Calls Tryd.prog 45 #[.agg #[.pointer (some ⟨x, 0, none⟩), .pointer (some ⟨r, 0, none⟩)], .agg #[.int .i64 o.k, .int .i64 o.on, .int .i64 o.a, .int .i64 o.b, .int .i64 o.h, .int .i64 o.n, .int .i64 o.s]] W fun e W' => e = .returned (.bool true) ∧ ∃ S', PPost PA W W' x r fp S') :
    Calls Tryd.prog 13 #[sv, .int .i64 last] W fun e W' => e = .returned (.bool true) ∧ Ext none1 W W' := by
  obtain ⟨g, cap, w3, hr, hst⟩ := start_of W sv ops hG hs hn
  have HS : Hid _ := hst
  have HR : Hid _ := hr
  clear hr
  have HD : Hid _ := hd
  have hG0 := hG
  have HO : Hid _ := hok
  clear hst hd hok hs hG
  go_enter Tryd.func13, Tryd.ntmps13
  go_wp2_with (first
    | (refine wpList_buildAs rfl 63 _ rfl 9 rfl #[.slice none 0 0] (by kernel_rfl) ?_)
    | (refine wpList_buildAs rfl 26 _ rfl 11 rfl #[.int .i64 1, .int .i64 2, .int .i64 1] (by kernel_rfl) ?_)
    | (refine wpList_buildAs rfl 65 _ rfl 12 rfl #[.int .i64 1, .int .i64 0, .int .i64 0, .int .i64 0, .int .i64 1, .int .i64 2, .int .i64 1] (by kernel_rfl) ?_)
    | (refine wpList_buildAs rfl 65 _ rfl 13 rfl #[.int .i64 2, .int .i64 0, .int .i64 0, .int .i64 9, .int .i64 0, .int .i64 0, .int .i64 0] (by kernel_rfl) ?_)
    | (refine wpList_buildAs rfl 65 _ rfl 14 rfl #[.int .i64 2, .int .i64 0, .int .i64 0, .int .i64 9, .int .i64 0, .int .i64 0, .int .i64 0] (by kernel_rfl) ?_)
    | (refine wpList_buildAs rfl 65 _ rfl 15 rfl #[.int .i64 4, .int .i64 0, .int .i64 20, .int .i64 7, .int .i64 0, .int .i64 0, .int .i64 0] (by kernel_rfl) ?_)
    | (refine wpList_buildAs rfl 65 _ rfl 16 rfl #[.int .i64 5, .int .i64 0, .int .i64 20, .int .i64 0, .int .i64 0, .int .i64 0, .int .i64 0] (by kernel_rfl) ?_)
    | (refine wpList_buildAs rfl 65 _ rfl 17 rfl #[.int .i64 3, .int .i64 0, .int .i64 0, .int .i64 0, .int .i64 0, .int .i64 0, .int .i64 0] (by kernel_rfl) ?_)
    | (refine wpList_buildAs rfl 65 _ rfl 18 rfl #[.int .i64 7, .int .i64 0, .int .i64 1, .int .i64 1, .int .i64 0, .int .i64 0, .int .i64 0] (by kernel_rfl) ?_)
    | (refine wpList_buildAs rfl 65 _ rfl 19 rfl #[.int .i64 9, .int .i64 0, .int .i64 1, .int .i64 0, .int .i64 0, .int .i64 0, .int .i64 0] (by kernel_rfl) ?_)
    | (at_builtin; refine stand_at ?_)
    | (refine wpList_buildSliceTo rfl 22 65 8 _ rfl (W.heap.size + 1) (by simp) (some 20) rfl Tryd.underlying22 #[.int .i64 1, .int .i64 0, .int .i64 0, .int .i64 0, .int .i64 1, .int .i64 2, .int .i64 1, .int .i64 2, .int .i64 0, .int .i64 0, .int .i64 9, .int .i64 0, .int .i64 0, .int .i64 0, .int .i64 2, .int .i64 0, .int .i64 0, .int .i64 9, .int .i64 0, .int .i64 0, .int .i64 0, .int .i64 4, .int .i64 0, .int .i64 20, .int .i64 7, .int .i64 0, .int .i64 0, .int .i64 0, .int .i64 5, .int .i64 0, .int .i64 20, .int .i64 0, .int .i64 0, .int .i64 0, .int .i64 0, .int .i64 3, .int .i64 0, .int .i64 0, .int .i64 0, .int .i64 0, .int .i64 0, .int .i64 0, .int .i64 7, .int .i64 0, .int .i64 1, .int .i64 1, .int .i64 0, .int .i64 0, .int .i64 0, .int .i64 9, .int .i64 0, .int .i64 1, .int .i64 0, .int .i64 0, .int .i64 0, .int .i64 0] (by kernel_rfl) ?_))
  show wpList _ _ _ _ _ _
  refine wpList_appEq rfl (.tmp 21) (.tmp 22) 22 rfl _ _ _ w3 rfl rfl HR.out ?_
  clear HR
  have hst := HS.out
  have hall : ∀ o ∈ pre8 ++ ops, o.ok := fun o ho => by
    rcases List.mem_append.1 ho with h | h
    · exact pre8_ok o h
    · exact HO.out o h
  have hlen : (pre8 ++ ops).length = 8 + ops.length := by simp [pre8]; omega
  have hfirst : (pre8 ++ ops)[0]? = some ⟨1, 0, 0, 0, 1, 2, 1⟩ := rfl
  have hg0 : 0 < W.heap.size := let ⟨_, h⟩ := hG0; h.2
  have hA0 : AllAt PA w3 W.heap.size (W.heap.size + 1) (fun k => k = W.heap.size) [] :=
    ⟨⟨_, hst.box, World.ownsRow_nil _ _ _ _, fun g hg => by cases hg⟩, fun k hk => by rw [hk]; exact lt_of_heap hst.box, rfl, fun e he => (by cases he), Nat.lt_succ_self _, fun e he => (by cases he), fun e he => (by cases he), fun i j a b hi => (by cases hi), fun h => by omega, hst.glob⟩
  have Hst : Hid (Start W w3 g ops) := hst
  have Hrow : Hid (RowO w3 g (pre8 ++ ops)) := hst.row
  have HA0 : Hid _ := hA0
  have HL : Hid (∀ o ∈ pre8 ++ ops, o.ok) := hall
  have HF : Hid ((pre8 ++ ops)[0]? = some ⟨1, 0, 0, 0, 1, 2, 1⟩) := hfirst
  have HN : Hid ((pre8 ++ ops).length = 8 + ops.length) := hlen
  clear hst HS HO hA0 hall hfirst hlen hG0
  generalize hall : pre8 ++ ops = all at *
  clear hall
  obtain ⟨N, hN⟩ : ∃ N, 8 + ops.length = N := ⟨_, rfl⟩
  rw [hN] at HN ⊢
  have hNle : N ≤ 2513169434851 := by omega
  have hN8 : 8 ≤ N := by omega
  clear hN hn
  go_wp2
  go_loopw [7, 8] (fun i _ wr => ∃ (k : Nat) (foot : Nat → Prop) (L : List Ent), k ≤ N ∧ i = .int .i64 k ∧ AllAt PA wr W.heap.size (W.heap.size + 1) foot L ∧ L.length ≤ k ∧ (0 < k → 0 < L.length) ∧ RowO wr g all ∧ ¬ foot g ∧ W.heap.size + 1 ≤ wr.heap.size ∧ Ext none1 W wr ∧ ∀ j, foot j → W.heap.size ≤ j)
    (fun i _ _ => N - (intOf i).toNat)
  case atStart => exact ⟨0, _, [], Nat.zero_le _, rfl, HA0.out, Nat.le_refl _, fun h => absurd h (Nat.lt_irrefl _), Hrow.out, fun h => by have := Hst.out.lo; omega, by have := Hst.out.lo; have := Hst.out.hi; omega, Hst.out.ext, fun j hj => Nat.le_of_eq hj.symm⟩
  case round =>
    obtain ⟨k, foot, L, hk, rfl, hA, hLk, hL0, hrow, hfg, hbs, hEx, hfl⟩ := hrel
    by_cases hlt : k < N
    · obtain ⟨o, ho⟩ : ∃ o, all[k]? = some o := ⟨_, List.getElem?_eq_getElem (by rw [HN.out]; exact hlt)⟩
      have hok := HL.out o (List.mem_of_getElem? ho)
      obtain ⟨q0, q1, q2, q3, q4, q5, q6⟩ := hrow.cell k o ho
      have hlt' : (k : Int) < (N : Int) := by omega
      have hfst : k = 0 → o.k = 1 ∧ Ti.okConfig o.h o.n o.s = true := fun e => by
        subst e
        have := HF.out.symm.trans ho
        cases Option.some.inj this
        exact ⟨rfl, rfl⟩
      by_cases hol : last < o.k
      · have hk0 : 0 < k := by
          rcases Nat.eq_zero_or_pos k with e | e
          · have := (hfst e).1; omega
          · exact e
        have Hin : Hid _ := (show ∃ (k' : Nat) (foot : Nat → Prop) (L : List Ent), k' = k + 1 ∧ AllAt PA wr W.heap.size (W.heap.size + 1) foot L ∧ L.length ≤ k' ∧ (0 < k' → 0 < L.length) ∧ RowO wr g all ∧ ¬ foot g ∧ W.heap.size + 1 ≤ wr.heap.size ∧ Ext none1 W wr ∧ (∀ j, foot j → W.heap.size ≤ j) from ⟨k + 1, foot, L, rfl, hA, by omega, fun _ => hL0 hk0, hrow, hfg, hbs, hEx, hfl⟩)
        clear hA hrow hfg hbs hEx hfl hL0 hfst HA0 Hst Hrow HD
        go_wp2
        go_roundw
        case rel =>
          obtain ⟨k', foot', L', rfl, r⟩ := Hin.out
          exact ⟨k + 1, foot', L', by omega, by go_num, r⟩
        case measure => simp [intOf]; omega
      · obtain ⟨m', m1, m2, m3, hstep⟩ := step_both F wr W.heap.size (W.heap.size + 1) foot L hA hbs (by omega) o hok (by
          rcases Nat.eq_zero_or_pos k with e | e
          · exact .inr (hfst e)
          · exact .inl (hL0 e)) (HD.out o (by omega) hok)
        have H1 : Hid _ := hstep
        have Hin : Hid (∀ W', AllPost PA wr W' W.heap.size (W.heap.size + 1) foot m' → ∃ (k' : Nat) (foot : Nat → Prop) (L : List Ent), k' = k + 1 ∧ AllAt PA W' W.heap.size (W.heap.size + 1) foot L ∧ L.length ≤ k' ∧ (0 < k' → 0 < L.length) ∧ RowO W' g all ∧ ¬ foot g ∧ W.heap.size + 1 ≤ W'.heap.size ∧ Ext none1 W W' ∧ ∀ j, foot j → W.heap.size ≤ j) := fun W' hp => by
          obtain ⟨foot', L', hl, hA', hE', hn'⟩ := hp
          have hgl : g < wr.heap.size := let ⟨_, _, h, _⟩ := hrow; lt_of_heap h
          refine ⟨k + 1, foot', L', rfl, hA', by omega, fun _ => by omega, hrow.keep hE' hfg, fun h => ?_, Nat.le_trans hbs hE'.size, hEx.trans' hE' (fun j hj hf => absurd (hfl j hf) (by omega)), fun j hj => ?_⟩
          · rcases hn' g h with h | h
            · exact hfg h
            · omega
          · rcases hn' j hj with h | h
            · exact hfl j h
            · omega
        clear hA hrow hfg hbs hEx hfl hL0 hfst HA0 Hst Hrow HD hstep
        go_wp2_with fail
        refine Calls.mono H1.out ?_
        rintro e W' ⟨rfl, hp⟩
        obtain ⟨g2, cap2, y2⟩ := hp.len m3
        have m3' : ¬ (m' : Int) = 0 := by omega
        have m3b : ((m' : Int) == 0) = false := beq_eq_false_iff_ne.2 m3'
        have Hp : Hid _ := Hin.out W' hp
        clear hp Hin H1 q0 q1 q2 q3 q4 q5 q6
        go_wp2
        go_roundw
        case rel =>
          obtain ⟨k', foot', L', rfl, r⟩ := Hp.out
          exact ⟨k + 1, foot', L', by omega, by go_num, r⟩
        case measure => simp [intOf]; omega
    · obtain rfl : k = N := by omega
      have hE := hEx
      clear hA hrow HA0 Hst Hrow HD hL0 hfl
      go_wp2
      go_ret
      exact ⟨rfl, hE⟩
end Go.Proofs.YtbagfepdmmfegaaDoor

namespace Go.Proofs.YtbagfepdmmfegaaDoor
open Go.RowKit

theorem smalls_any (W : World) (sv : Value) (ops : List O7) (hG : GlobAt W) (hs : ScriptAt W sv ops) (hn : ops.length ≤ 2513169434843) (hok : ∀ o ∈ ops, o.ok) :
    Calls Tryd.prog 3 #[sv] W fun e W' => e = .returned (.bool true) ∧ Ext none1 W W' := by
  have H : Hid _ := plays_any face W sv ops 5 hG hs hn hok (by omega) (by omega) (fun o h1 ho W x r fp S hp => done_smalls face W x r fp S hp o.k o.on o.a o.b o.h o.n o.s h1 ho.2.2.1 ho.2.2.2)
  clear hs hok hG
  go_enter Tryd.func3, Tryd.ntmps3
  go_wp2_with fail
  refine Calls.mono H.out ?_
  rintro e W' ⟨rfl, hE⟩
  go_wp2
  go_ret
  exact ⟨rfl, hE⟩
end Go.Proofs.YtbagfepdmmfegaaDoor
