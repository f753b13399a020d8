import Derived.Test.YtbagfepdmmfegaaDoorK18
import Derived.Deep.AppendLies
import Derived.Deep.RegionHeld3
set_option linter.unusedVariables false
set_option linter.unusedSimpArgs false
namespace Go.Proofs.YtbagfepdmmfegaaDoor
open Go.RowKit

theorem infoPair : (Tryd.prog.info? 85).map (fun i => (i.zero, i.size, i.bytes)) = some (some (.agg #[.pointer none, .pointer none]), 2, 16) := by kernel_rfl

theorem enc_append (a b : List Ent) : enc (a ++ b) = enc a ++ enc b := by simp [enc]

/-- 'append(w.l, p)' -/
theorem wp_appP {ops : Array Oper} {rest : List Oper} {o : Oper} {a : Act} {Q : Exit → Act → World → Prop} {W : World} (hgd : o.guard = none) (s x : Operand)
    (ho : o.op = .call { callee := .builtin .append, args := #[s, x], argTypes := #[61, 61] })
    (base : Nat) (v : Value) (L : List Ent) (hs : a.eval s = v) (hown : W.ownsRow base 85 2 v L.length (enc L)) (b : Nat) (y : Ent) (hx : a.eval x = .slice (some ⟨b, 0, none⟩) 1 1)
    (h0 : W.cell? ⟨b, 0, none⟩ = some (.pointer (some ⟨y.x, 0, none⟩))) (h1 : W.cell? ⟨b, 1, none⟩ = some (.pointer (some ⟨y.r, 0, none⟩))) (hn : L.length ≤ 2513169434900) (hbase : base ≤ W.heap.size)
    (h : ∀ g cap w', w'.ownsRow base 85 2 (.slice (some ⟨g, 0, none⟩) (L.length + 1) cap) (L ++ [y]).length (enc (L ++ [y])) → W.grownBy w' v.ownBlock → (v.ownBlock = some g ∨ g = W.heap.size) → g < w'.heap.size → wpList Tryd.prog ops Q rest (a.put o.dst (.slice (some ⟨g, 0, none⟩) (L.length + 1) cap)) w') : wpList Tryd.prog ops Q (o :: rest) a W := by
  obtain ⟨i0, hi, hi0, hi1, hi2⟩ := info_parts infoPair
  refine wpList_append_lies _ hgd s x 61 ho base 85 i0 _ 2 16 Tryd.underlying61 hi hi0 hi1 hi2 rfl (by decide) v L.length (enc L) hs hown ⟨b, 0, none⟩ 1 1 [.pointer (some ⟨y.x, 0, none⟩), .pointer (some ⟨y.r, 0, none⟩)] hx rfl
    (news2 h0 h1) (by intro u hu; simp at hu; rcases hu with rfl | rfl <;> rfl) (by omega) (by unfold maxLen; omega) (by omega) hbase _ rfl ?_
  intro g cap w' h2 h3 h4 h5
  refine h g cap w' ?_ h3 h4 h5
  rw [enc_append]
  simpa [enc] using h2

set_option maxRecDepth 100000 in
set_option maxHeartbeats 4000000 in
theorem begins_no {PA : World → Nat → (Nat → Prop) → Ti.St → Prop} {big : Prop} (F : Face PA big) (W : World) (wl base : Nat) (foot : Nat → Prop) (L : List Ent) (hA : AllAt PA W wl base foot L) (h n s : Int) (hno : Ti.okConfig h n s = false) :
    Calls Tryd.prog 44 #[.pointer (some ⟨wl, 0, none⟩), .agg #[.int .i64 h, .int .i64 n, .int .i64 s]] W fun e W' => e = .returned (.bool true) ∧ AllPost PA W W' wl base foot L.length := by
  go_enter Tryd.func44, Tryd.ntmps44
  go_wp2_with fail
  have b0 := heap_alloc_new W (.cells #[.int .i64 h, .int .i64 n, .int .i64 s] 26)
  have hE0 : Ext none1 W (W.alloc (.cells #[.int .i64 h, .int .i64 n, .int .i64 s] 26)) := (Ext.refl _ _).alloc _
  generalize (W.alloc (.cells #[.int .i64 h, .int .i64 n, .int .i64 s] 26)) = W0 at *
  refine (F.newNo W0 h n s hno).mono ?_
  rintro e W1 ⟨rfl, hE1⟩
  have b0 := hE1.keep b0 (fun x => x)
  have c0 := cell_of b0 0
  have c1 := cell_of b0 1
  have c2 := cell_of b0 2
  simp at c0 c1 c2
  go_wp2_with fail
  refine (refNew_no W1 h s n hno).mono ?_
  rintro e W2 ⟨rfl, hE2⟩
  go_wp2_with fail
  refine (num_any _ _).mono ?_
  rintro e W3 ⟨rfl, rfl⟩
  go_wp2_with fail
  go_ret
  have hE := (hE0.trans hE1).trans hE2
  exact ⟨by simp, foot, L, rfl, hA.keep F hE (fun _ _ x => x) (fun x => x), hE.mono (fun _ _ x => x.elim), fun k hk => .inl hk⟩
end Go.Proofs.YtbagfepdmmfegaaDoor

namespace Go.Proofs.YtbagfepdmmfegaaDoor
open Go.RowKit

/-- one more -/
theorem AllAt.more {PA : World → Nat → (Nat → Prop) → Ti.St → Prop} {big : Prop} (F : Face PA big) {W W' : World} {wl base g cap : Nat} {foot fp Y : Nat → Prop} {L : List Ent} {x r : Nat} {S : Ti.St} (h : AllAt PA W wl base foot L) (hbs : base ≤ W.heap.size)
    (hE : Ext Y W W') (hY : ∀ k, Y k → foot k ∧ ∀ e ∈ L, ¬ e.fp k) (hp : PairAt PA W' x r fp S) (hn : ∀ k, fp k → W.heap.size ≤ k) (hg : (foot g ∧ ∀ e ∈ L, ¬ e.fp g) ∨ W.heap.size ≤ g) (hgl : g < W'.heap.size) (hgf : ¬ fp g)
    (hb : W'.heap[wl]? = some (.cells #[.slice (some ⟨g, 0, none⟩) (L.length + 1) cap] 63 (0, 0))) (ho : W'.ownsRow base 85 2 (.slice (some ⟨g, 0, none⟩) (L.length + 1) cap) (L.length + 1) (enc (L ++ [⟨x, r, fp, S⟩]))) :
    AllPost PA W W' wl base foot (L.length + 1) := by
  have hw := h.low
  refine ⟨fun k => foot k ∨ (W.heap.size ≤ k ∧ k < W'.heap.size), L ++ [⟨x, r, fp, S⟩], by simp, ⟨⟨_, hb, by simpa using ho, fun k hk => ?_⟩, ?_, .inl h.fwl, ?_, h.low, ?_, ?_, ?_, ?_, h.glob.keep hE (fun hy => h.fpos (hY 0 hy).1)⟩, hE.mono (fun k _ hk => (hY k hk).1), fun k hk => hk.imp id (fun x => x.1)⟩
  · obtain rfl : g = k := by simpa [Value.ownBlock] using hk
    refine ⟨hg.imp (fun x => x.1) (fun x => ⟨x, hgl⟩), fun e he => ?_⟩
    rcases List.mem_append.1 he with he | he
    · rcases hg with hg | hg
      · exact hg.2 e he
      · intro hh; have := (h.pairs e he).lt _ hh; omega
    · rw [List.mem_singleton.1 he]; exact hgf
  · rintro k (hk | hk)
    · exact Nat.lt_of_lt_of_le (h.flt k hk) hE.size
    · exact hk.2
  · intro e he k hk
    rcases List.mem_append.1 he with he | he
    · exact .inl (h.ffp e he k hk)
    · rw [List.mem_singleton.1 he] at hk
      exact .inr ⟨hn k hk, hp.lt k hk⟩
  · intro e he
    rcases List.mem_append.1 he with he | he
    · exact h.nbox e he
    · rw [List.mem_singleton.1 he]
      intro hh; have := hn wl hh; omega
  · intro e he
    rcases List.mem_append.1 he with he | he
    · exact (h.pairs e he).keep F hE (fun k hk hy => (hY k hy).2 e he hk) (fun hy => h.fpos (hY 0 hy).1)
    · rw [List.mem_singleton.1 he]; exact hp
  · intro i j a b hi hj hne k ha hb
    have key : ∀ (i : Nat) (a : Ent), (L ++ [⟨x, r, fp, S⟩])[i]? = some a → (i < L.length ∧ L[i]? = some a) ∨ (i = L.length ∧ a = ⟨x, r, fp, S⟩) := by
      intro i a hi
      rcases Nat.lt_trichotomy i L.length with hl | hl | hl
      · rw [List.getElem?_append_left hl] at hi; exact .inl ⟨hl, hi⟩
      · subst hl; rw [List.getElem?_concat_length] at hi; exact .inr ⟨rfl, (Option.some.inj hi).symm⟩
      · rw [List.getElem?_eq_none (by simp; omega)] at hi; cases hi
    rcases key i a hi with ⟨i1, i2⟩ | ⟨i1, rfl⟩ <;> rcases key j b hj with ⟨j1, j2⟩ | ⟨j1, rfl⟩
    · exact h.apart i j a b i2 j2 hne k ha hb
    · have := (h.pairs a (List.mem_of_getElem? i2)).lt k ha; have := hn k hb; omega
    · have := (h.pairs b (List.mem_of_getElem? j2)).lt k hb; have := hn k ha; omega
    · omega
  · rintro (hk | hk)
    · exact h.fpos hk
    · have := h.flt wl h.fwl; omega
end Go.Proofs.YtbagfepdmmfegaaDoor

namespace Go.Proofs.YtbagfepdmmfegaaDoor
open Go.RowKit

set_option maxRecDepth 100000 in
set_option maxHeartbeats 4000000 in
theorem begins_ok {PA : World → Nat → (Nat → Prop) → Ti.St → Prop} {big : Prop} (F : Face PA big) (W : World) (wl base : Nat) (foot : Nat → Prop) (L : List Ent) (hA : AllAt PA W wl base foot L) (hbs : base ≤ W.heap.size) (hL : L.length ≤ 2513169434900) (h n s : Int) (hok : Ti.okConfig h n s = true) :
    Calls Tryd.prog 44 #[.pointer (some ⟨wl, 0, none⟩), .agg #[.int .i64 h, .int .i64 n, .int .i64 s]] W fun e W' => e = .returned (.bool true) ∧ AllPost PA W W' wl base foot (L.length + 1) := by
  obtain ⟨v, w1, w2, w3⟩ := hA.box
  have hw := hA.low
  go_enter Tryd.func44, Tryd.ntmps44
  go_wp2_with fail
  have b0 := heap_alloc_new W (.cells #[.int .i64 h, .int .i64 n, .int .i64 s] 26)
  have hE0 : Ext none1 W (W.alloc (.cells #[.int .i64 h, .int .i64 n, .int .i64 s] 26)) := (Ext.refl _ _).alloc _
  generalize (W.alloc (.cells #[.int .i64 h, .int .i64 n, .int .i64 s] 26)) = W0 at *
  refine (F.new W0 h n s (hA.glob.keep hE0 (fun x => x)) hok).mono ?_
  rintro e W1 ⟨x, fx, rfl, hx, hE1, nx⟩
  have b0 := hE1.keep b0 (fun x => x)
  have c0 := cell_of b0 0
  have c1 := cell_of b0 1
  have c2 := cell_of b0 2
  simp at c0 c1 c2
  go_wp2_with fail
  refine (refNew_is W1 h s n hok).mono ?_
  rintro e W2 ⟨r, fr, rfl, hr, hE2, nr⟩
  go_wp2_with fail
  refine (num_any _ _).mono ?_
  rintro e W3 ⟨rfl, rfl⟩
  have hE := (hE0.trans hE1).trans hE2
  have z0 := hE0.size
  have z1 := hE1.size
  have z2 := hE2.size
  have hb2 := hE.keep w1 (fun x => x)
  have ho2 := ownsRow_ext w2 hE (fun _ _ x => x)
  have d0 := cell_of hb2 0
  have d1 := frozen_of hb2 0
  have dl := lt_of_heap hb2
  simp at d0
  have hx2 := F.keep hx hE2 (fun _ _ x => x) (fun x => x)
  clear b0 c0 c1 c2
  go_wp2_with (at_builtin; refine wp_appP rfl (.tmp 36) (.tmp 40) rfl base v L rfl (by exact ho2.alloc _) W2.heap.size ⟨x, r, fun k => fx k ∨ fr k, Ti.newSt h n s⟩ rfl (by simp) (by simp) (by omega) (by simp; omega) ?_; intro g cap w4 hown4 hgrow4 hat4 hgl4; have hb4 : w4.heap[wl]? = some (.cells #[v] 63 (0, 0)) := (hgrow4.block _ (by simp; omega) (fun hh => by have := owns_block ho2 _ hh.symm; omega)).trans ((Below.heap_alloc _ _ _ dl).trans hb2); have d4 := cell_of hb4 0; have d5 := frozen_of hb4 0; simp at d4)
  go_ret
  refine ⟨rfl, ?_⟩
  have lf : ∀ g, v.ownBlock = some g → g < W.heap.size := fun g hg => hA.flt g (w3 g hg).1
  have hEa : Ext (fun k => k = wl ∨ v.ownBlock = some k) W2 w4 := ((Ext.refl _ _).alloc _).grown hgrow4 (fun k hk => .inl (.inr hk))
  have hEb := hEa.setCell ⟨wl, 0, none⟩ (.inl (.inl rfl)) (.slice (some ⟨g, 0, none⟩) (L.length + 1) cap)
  have hsz : (W2.alloc (.cells #[.pointer (some ⟨x, 0, none⟩), .pointer (some ⟨r, 0, none⟩)] 85)).heap.size = W2.heap.size + 1 := by simp
  have nfx : ∀ k, fx k → ¬ (k = wl ∨ v.ownBlock = some k) := fun k hk hh => by
    have := (nx k hk).1
    have hwl := hA.flt wl hA.fwl
    rcases hh with rfl | hh
    · omega
    · have := lf k hh; omega
  have nfr : ∀ k, fr k → ¬ (k = wl ∨ v.ownBlock = some k) := fun k hk hh => by
    have := (nr k hk).1
    have hwl := hA.flt wl hA.fwl
    rcases hh with rfl | hh
    · omega
    · have := lf k hh; omega
  have n0 : ¬ (0 = wl ∨ v.ownBlock = some 0) := fun hh => by
    rcases hh with hh | hh
    · exact hA.fpos (by rw [hh]; exact hA.fwl)
    · exact hA.fpos (w3 0 hh).1
  have z4 := hEb.size
  have hwpos := hA.flt wl hA.fwl
  refine AllAt.more F hA hbs (g := g) (cap := cap) (fp := fun k => fx k ∨ fr k) (x := x) (r := r) (S := Ti.newSt h n s) ((hE.mono (fun _ _ x => x.elim)).trans hEb) ?_ ⟨⟨fx, fr, F.keep hx2 hEb nfx n0, hr.keep hEb nfr, ?_, fun k => Iff.rfl⟩, ?_, (by rintro (hk | hk); (have := nx 0 hk; omega); (have := nr 0 hk; omega))⟩ ?_ ?_ ?_ ?_ ?_ ?_
  · rintro k (rfl | hk)
    · exact ⟨hA.fwl, hA.nbox⟩
    · exact w3 k hk
  · intro k h1 h2
    have := nx k h1; have := nr k h2; omega
  · rintro k (hk | hk)
    · have := nx k hk; omega
    · have := nr k hk; omega
  · rintro k (hk | hk)
    · have := nx k hk; omega
    · have := nr k hk; omega
  · rcases hat4 with hh | hh
    · exact .inl (w3 g hh)
    · exact .inr (by rw [hh, hsz]; omega)
  · exact Nat.lt_of_lt_of_le hgl4 (Ext.setCell (X := fun k => k = wl) (Ext.refl _ _) ⟨wl, 0, none⟩ (.inl rfl) _).size
  · rintro (hk | hk)
    · have := nx g hk
      rcases hat4 with hh | hh
      · have := lf g hh; omega
      · rw [hsz] at hh; omega
    · have := nr g hk
      rcases hat4 with hh | hh
      · have := lf g hh; omega
      · rw [hsz] at hh; omega
  · rw [heap_set hb4]; rfl
  · exact ownsRow_ext (by simpa using hown4) (Ext.setCell (X := fun k => k = wl) (Ext.refl _ _) ⟨wl, 0, none⟩ (.inl rfl) _) (fun k hk hh => by have := owns_block hown4 k hk; omega)
end Go.Proofs.YtbagfepdmmfegaaDoor

namespace Go.Proofs.YtbagfepdmmfegaaDoor
open Go.RowKit

theorem AllPost.before {PA : World → Nat → (Nat → Prop) → Ti.St → Prop} {W W0 W2 : World} {wl base m : Nat} {foot : Nat → Prop} (hE : Ext none1 W W0) (h : AllPost PA W0 W2 wl base foot m) : AllPost PA W W2 wl base foot m := by
  obtain ⟨f, L, a, p, e, n⟩ := h
  exact ⟨f, L, a, p, (hE.mono (fun _ _ x => x.elim)).trans e, fun k hk => (n k hk).imp id (fun h => Nat.le_trans hE.size h)⟩

set_option maxRecDepth 100000 in
set_option maxHeartbeats 4000000 in
theorem step_new {PA : World → Nat → (Nat → Prop) → Ti.St → Prop} {big : Prop} (F : Face PA big) (W : World) (wl base : Nat) (foot : Nat → Prop) (L : List Ent) (hA : AllAt PA W wl base foot L) (hbs : base ≤ W.heap.size) (hL : L.length ≤ 2513169434900) (on a b h n s : Int) :
    Calls Tryd.prog 26 #[.pointer (some ⟨wl, 0, none⟩), .agg #[.int .i64 1, .int .i64 on, .int .i64 a, .int .i64 b, .int .i64 h, .int .i64 n, .int .i64 s]] W fun e W' =>
      e = .returned (.bool true) ∧ AllPost PA W W' wl base foot (L.length + if Ti.okConfig h n s = true then 1 else 0) := by
  have hE0 : Ext none1 W (W.alloc (.cells #[.int .i64 1, .int .i64 on, .int .i64 a, .int .i64 b, .int .i64 h, .int .i64 n, .int .i64 s] 65)) := (Ext.refl _ _).alloc _
  have hA0 := hA.keep F hE0 (fun _ _ x => x) (fun x => x)
  have hz := hE0.size
  generalize hm : (L.length + if Ti.okConfig h n s = true then 1 else 0) = m
  have Hm : Hid (L.length + (if Ti.okConfig h n s = true then 1 else 0) = m) := hm
  clear hm
  go_enter Tryd.func26, Tryd.ntmps26
  go_wp2_with fail
  cases hok : Ti.okConfig h n s
  · have hm : L.length = m := by rw [← Hm.out, hok]; rfl
    clear Hm
    refine (begins_no F _ wl base foot L hA0 h n s hok).mono ?_
    rintro e W1 ⟨rfl, hp⟩
    clear hok
    go_wp2_with fail
    go_ret
    exact ⟨rfl, by rw [← hm]; exact AllPost.before hE0 hp⟩
  · have hm : L.length + 1 = m := by rw [← Hm.out, hok]; rfl
    clear Hm
    refine (begins_ok F _ wl base foot L hA0 (by omega) hL h n s hok).mono ?_
    rintro e W1 ⟨rfl, hp⟩
    clear hok
    go_wp2_with fail
    go_ret
    exact ⟨rfl, by rw [← hm]; exact AllPost.before hE0 hp⟩
end Go.Proofs.YtbagfepdmmfegaaDoor

namespace Go.Proofs.YtbagfepdmmfegaaDoor
open Go.RowKit

theorem addr_add (g j : Nat) : (⟨g, 0, none⟩ : Addr).add j = ⟨g, j, none⟩ := by cases j <;> simp [Addr.add]
theorem enc_get (L : List Ent) (i : Nat) (a : Ent) (hi : L[i]? = some a) : (enc L)[i * 2]? = some (.pointer (some ⟨a.x, 0, none⟩)) ∧ (enc L)[i * 2 + 1]? = some (.pointer (some ⟨a.r, 0, none⟩)) := by
  induction L generalizing i with
  | nil => cases hi
  | cons c t ih =>
    cases i with
    | zero =>
      obtain rfl : c = a := by simpa using hi
      exact ⟨rfl, rfl⟩
    | succ i =>
      have := ih i (by simpa using hi)
      have e1 : (i + 1) * 2 = i * 2 + 2 := by omega
      rw [e1]
      exact ⟨this.1, this.2⟩

set_option maxRecDepth 100000 in
set_option maxHeartbeats 4000000 in
theorem step_other {PA : World → Nat → (Nat → Prop) → Ti.St → Prop} {big : Prop} (F : Face PA big) (W : World) (wl base : Nat) (foot : Nat → Prop) (L : List Ent) (hA : AllAt PA W wl base foot L) (hL0 : 0 < L.length) (hL : L.length ≤ 2513169434900) (k on a b h n s : Int) (hk : k ≠ 1) (o0 : -9223372036854775808 ≤ on) (o1 : on ≤ 9223372036854775807)
    (hdone : ∀ (W : World) (x r : Nat) (fp : Nat → Prop) (S : Ti.St), PairAt PA W x r fp S → Calls Tryd.prog 45 #[.agg #[.pointer (some ⟨x, 0, none⟩), .pointer (some ⟨r, 0, none⟩)], .agg #[.int .i64 k, .int .i64 on, .int .i64 a, .int .i64 b, .int .i64 h, .int .i64 n, .int .i64 s]] W fun e W' => e = .returned (.bool true) ∧ ∃ S', PPost PA W W' x r fp S') :
    Calls Tryd.prog 26 #[.pointer (some ⟨wl, 0, none⟩), .agg #[.int .i64 k, .int .i64 on, .int .i64 a, .int .i64 b, .int .i64 h, .int .i64 n, .int .i64 s]] W fun e W' =>
      e = .returned (.bool true) ∧ AllPost PA W W' wl base foot L.length := by
  have hE0 : Ext none1 W (W.alloc (.cells #[.int .i64 k, .int .i64 on, .int .i64 a, .int .i64 b, .int .i64 h, .int .i64 n, .int .i64 s] 65)) := (Ext.refl _ _).alloc _
  have hA0 := hA.keep F hE0 (fun _ _ x => x) (fun x => x)
  have hob : (W.alloc (.cells #[.int .i64 k, .int .i64 on, .int .i64 a, .int .i64 b, .int .i64 h, .int .i64 n, .int .i64 s] 65)).heap[W.heap.size]? = some (.cells #[.int .i64 k, .int .i64 on, .int .i64 a, .int .i64 b, .int .i64 h, .int .i64 n, .int .i64 s] 65 (0, 0)) := heap_alloc_new _ _
  have hfl := hA.flt
  have hkb : (k == 1) = false := beq_eq_false_iff_ne.2 hk
  obtain ⟨v, e1, e2, e3⟩ := hA.box
  generalize hW0 : (W.alloc (.cells #[.int .i64 k, .int .i64 on, .int .i64 a, .int .i64 b, .int .i64 h, .int .i64 n, .int .i64 s] 65)) = W0 at *
  have HW0 : Hid _ := hW0
  clear hW0
  have b1 := hE0.keep e1 (fun x => x)
  have b2 := ownsRow_ext e2 hE0 (fun _ _ x => x)
  have b3 := e3
  obtain ⟨g, cap, rfl⟩ : ∃ g cap, v = .slice (some ⟨g, 0, none⟩) L.length cap := by
    rcases b2.2 with ⟨_, e⟩ | ⟨g, cap, cur, e, _⟩
    · omega
    · exact ⟨g, cap, e⟩
  have hpi := pickI_bd on L.length (by omega)
  obtain ⟨i, hi⟩ : ∃ i : Nat, pickI on L.length = (i : Int) := ⟨(pickI on L.length).toNat, by omega⟩
  have hil : i < L.length := by omega
  obtain ⟨en, hen⟩ : ∃ en, L[i]? = some en := ⟨_, List.getElem?_eq_getElem hil⟩
  have hmem := List.mem_of_getElem? hen
  obtain ⟨g1, g2⟩ := enc_get L i en hen
  have c1 : W0.cell? ⟨g, i * 2, none⟩ = some (.pointer (some ⟨en.x, 0, none⟩)) := by have := b2.cells (g := g) rfl _ _ g1; rwa [addr_add] at this
  have c2 : W0.cell? ⟨g, i * 2 + 1, none⟩ = some (.pointer (some ⟨en.r, 0, none⟩)) := by have := b2.cells (g := g) rfl _ _ g2; rwa [addr_add] at this
  have y0 := cell_of b1 0
  have yw := cell_of e1 0
  have lw := lt_of_heap e1
  have hgl : g < W0.heap.size := hA0.flt g (b3 g rfl).1
  have hwl := lt_of_heap b1
  have hol := lt_of_heap hob
  have p1 := cell_of hob 0
  have p2 := cell_of hob 1
  have p3 := cell_of hob 2
  have p4 := cell_of hob 3
  have p5 := cell_of hob 4
  have p6 := cell_of hob 5
  have p7 := cell_of hob 6
  simp at y0 yw p1 p2 p3 p4 p5 p6 p7
  have hcc : ∀ (w' : World) (bb o : Nat), Ext en.fp W0 w' → bb < W0.heap.size → ¬ en.fp bb → w'.cell? ⟨bb, o, none⟩ = W0.cell? ⟨bb, o, none⟩ := fun w' bb o hE hl hn => by
    show World.cell? _ _ = World.cell? _ _
    unfold World.cell?
    simp only [hE.block bb hl hn]
  have k1 : ∀ (w' : World) (o : Nat), Ext en.fp W0 w' → w'.cell? ⟨wl, o, none⟩ = W0.cell? ⟨wl, o, none⟩ := fun w' o hE => hcc w' wl o hE hwl (hA0.nbox en hmem)
  have k2 : ∀ (w' : World) (o : Nat), Ext en.fp W0 w' → w'.cell? ⟨g, o, none⟩ = W0.cell? ⟨g, o, none⟩ := fun w' o hE => hcc w' g o hE hgl ((b3 g rfl).2 en hmem)
  have k3 : ∀ (w' : World) (o : Nat), Ext en.fp W0 w' → w'.cell? ⟨W.heap.size, o, none⟩ = W0.cell? ⟨W.heap.size, o, none⟩ := fun w' o hE => hcc w' _ o hE hol (fun hf => by have := hfl _ (hA.ffp en hmem _ hf); omega)
  have hEd : Ext none1 W0 W0.drew := (Ext.refl _ _).drew
  have hAd := hA0.keep F hEd (fun _ _ x => x) (fun x => x)
  have Hd : Hid _ := hdone W0.drew en.x en.r en.fp en.S (hAd.pairs en hmem)
  have Hfin : Hid (∀ W', (∃ S', PPost PA W0.drew W' en.x en.r en.fp S') → AllPost PA W W' wl base foot L.length) := fun W' h => let ⟨S', hp⟩ := h; AllPost.before (hE0.trans hEd) (AllAt.step F hAd i en hen hp)
  have Hx : Hid (∀ W', (∃ S', PPost PA W0.drew W' en.x en.r en.fp S') → Ext en.fp W0 W') := fun W' h => let ⟨S', fp', _, e, _⟩ := h; (hEd.mono (fun _ _ x => x.elim)).trans e
  have hil' : (i : Int) < (L.length : Int) := by omega
  have hL' : (L.length : Int) ≤ 2513169434900 := by omega
  have hL0' : ¬ (L.length : Int) = 0 := by omega
  have hL0'' : ¬ L.length = 0 := by omega
  have hLb : ((L.length : Int) == 0) = false := beq_eq_false_iff_ne.2 hL0'
  have Hpk : Hid (∀ w, Calls Tryd.prog 46 #[.int .i64 on, .int .i64 (L.length : Int)] w fun e w' => e = .returned (.int .i64 (i : Int)) ∧ w = w') := fun w => by rw [← hi]; exact pick_any on L.length w o0 o1 (by omega) (by omega)
  clear hdone hA hA0 hAd b1 b2 b3 e1 e2 e3 g1 g2 hob hcc hfl hpi hi hen hE0 hEd hk
  go_enter Tryd.func26, Tryd.ntmps26
  go_wp2
  rw [HW0.out]
  clear HW0 yw
  go_region_held3 (fun w' => Ext en.fp W0 w') (first | assumption | exact (Ext.refl _ _).drew | exact Hx.out _ (by assumption))
    (first
      | (go_at_call 46; refine Calls.mono (Hpk.out _) ?_; rintro e w' ⟨rfl, rfl⟩)
      | (go_at_call 45; refine Calls.mono Hd.out ?_; rintro e w' ⟨rfl, hpp⟩; have hxx := Hx.out _ hpp))
  all_goals go_wp2
  all_goals go_ret
  all_goals exact ⟨rfl, Hfin.out _ (by assumption)⟩
end Go.Proofs.YtbagfepdmmfegaaDoor
