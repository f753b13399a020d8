import Derived.Test.YtbagfepdmmfegaaDoorK17
import Derived.Test.YtbagfepdmmfegaaDoorK16
set_option linter.unusedVariables false
set_option linter.unusedSimpArgs false
/- A TITHE AND THE DOCUMENT'S, side by side: what is asked of the program's face, and what a step leaves. -/
namespace Go.Proofs.YtbagfepdmmfegaaDoor
open Go.RowKit

theorem refStore_is (W : World) (r : Nat) (fp : Nat → Prop) (S : Ti.St) (a v : Int) (h : RefIs W r fp S) :
    Calls Tryd.prog 68 #[.pointer (some ⟨r, 0, none⟩), .int .i64 a, .int .i64 v] W fun e W' => e = .returned (.int .i64 (S.store a v).1) ∧ RPost W W' r fp (S.store a v).2 := by
  have hI' := Ti.inv_store S h.inv a v
  obtain ⟨hI, bf, bz, p, cap, hR, hA, f1, f2, f3, f4⟩ := h
  refine (refStore_any W r bf bz cap p S a v hR (Bd.of S hI.toInv0) (Within.of S hI.toInv0) ⟨hA.rz.symm, hA.fz.symm, fun x hx => (hA.pr x hx).2.2.symm⟩).mono ?_
  rintro e W' ⟨rfl, hE, hR'⟩
  have hb : (S.store a v).2.blocks = S.blocks := by unfold Ti.St.store; split; rfl; split <;> rfl
  exact ⟨rfl, fp, ⟨hI', bf, bz, p, cap, hR', hA, f1, f2, f3, by rw [hb]; exact f4⟩, hE.mono (fun k _ hk => by cases hk; exact f3), fun k hk => .inl hk⟩

theorem refLoad_is (W : World) (r : Nat) (fp : Nat → Prop) (S : Ti.St) (a : Int) (h : RefIs W r fp S) :
    Calls Tryd.prog 69 #[.pointer (some ⟨r, 0, none⟩), .int .i64 a] W fun e W' => e = .returned (.tuple #[.int .i64 (S.load a).1, .int .i64 (S.load a).2]) ∧ RPost W W' r fp S := by
  have h' := h
  obtain ⟨hI, bf, bz, p, cap, hR, hA, f1, f2, f3, f4⟩ := h
  refine (refLoad_any W r bf bz cap p S a hR (Bd.of S hI.toInv0) (Within.of S hI.toInv0)).mono ?_
  rintro e W' ⟨rfl, hE⟩
  exact ⟨rfl, fp, h'.keep hE (fun _ _ x => x), hE.mono (fun _ _ x => x.elim), fun k hk => .inl hk⟩

/-- the program's variables are laid -/
def GlobAt (W : World) : Prop := ∃ v, ErrAt W v
theorem GlobAt.keep {W W' : World} {X : Nat → Prop} (h : GlobAt W) (hE : Ext X W W') (h0 : ¬ X 0) : GlobAt W' := let ⟨v, hv⟩ := h; ⟨v, hv.ext hE h0⟩

/-- what a call of the program leaves -/
def XPost (PA : World → Nat → (Nat → Prop) → Ti.St → Prop) (W W' : World) (x : Nat) (fp : Nat → Prop) (S' : Ti.St) : Prop :=
  ∃ fp', PA W' x fp' S' ∧ Ext fp W W' ∧ ∀ k, fp' k → fp k ∨ (W.heap.size ≤ k ∧ k < W'.heap.size)

/-- THE PROGRAM'S FACE: 'PA W x fp S': the tithe at x is S, and has the blocks fp. 'big': large blocks too. -/
structure Face (PA : World → Nat → (Nat → Prop) → Ti.St → Prop) (big : Prop) : Prop where
  keep : ∀ {W W' : World} {x : Nat} {fp X : Nat → Prop} {S : Ti.St}, PA W x fp S → Ext X W W' → (∀ k, fp k → ¬ X k) → ¬ X 0 → PA W' x fp S
  pos : ∀ {W : World} {x : Nat} {fp : Nat → Prop} {S : Ti.St}, PA W x fp S → ¬ fp 0
  new : ∀ (W : World) (h n s : Int), GlobAt W → Ti.okConfig h n s = true →
    Calls Tryd.prog 28 #[.agg #[.int .i64 h, .int .i64 n, .int .i64 s]] W fun e W' => ∃ x fp, e = .returned (.tuple #[.pointer (some ⟨x, 0, none⟩), .int .i64 0]) ∧ PA W' x fp (Ti.newSt h n s) ∧ Ext none1 W W' ∧ ∀ k, fp k → W.heap.size ≤ k ∧ k < W'.heap.size
  newNo : ∀ (W : World) (h n s : Int), Ti.okConfig h n s = false →
    Calls Tryd.prog 28 #[.agg #[.int .i64 h, .int .i64 n, .int .i64 s]] W fun e W' => e = .returned (.tuple #[.pointer none, .int .i64 1]) ∧ Ext none1 W W'
  malloc : ∀ (W : World) (x : Nat) (fp : Nat → Prop) (S : Ti.St) (a b : Int), PA W x fp S → Ti.Inv S → (b ≤ 32 ∨ big) →
    Calls Tryd.prog 21 #[.pointer (some ⟨x, 0, none⟩), .int .i64 a, .int .i64 b] W fun e W' => e = .returned (.tuple #[.int .i64 (S.malloc a b).1.1, .int .i64 (S.malloc a b).1.2]) ∧ XPost PA W W' x fp (S.malloc a b).2
  free : ∀ (W : World) (x : Nat) (fp : Nat → Prop) (S : Ti.St) (a : Int), PA W x fp S → Ti.Inv S →
    Calls Tryd.prog 24 #[.pointer (some ⟨x, 0, none⟩), .int .i64 a] W fun e W' => e = .returned (.int .i64 (S.freeAt a).1) ∧ XPost PA W W' x fp (S.freeAt a).2
  store : ∀ (W : World) (x : Nat) (fp : Nat → Prop) (S : Ti.St) (a v : Int), PA W x fp S → Ti.Inv S → -9223372036854775808 ≤ a → a ≤ 9223372036854775807 →
    Calls Tryd.prog 23 #[.pointer (some ⟨x, 0, none⟩), .int .i64 a, .int .i64 v] W fun e W' => e = .returned (.int .i64 (S.store a v).1) ∧ XPost PA W W' x fp (S.store a v).2
  load : ∀ (W : World) (x : Nat) (fp : Nat → Prop) (S : Ti.St) (a : Int), PA W x fp S → Ti.Inv S → -9223372036854775808 ≤ a → a ≤ 9223372036854775807 →
    Calls Tryd.prog 22 #[.pointer (some ⟨x, 0, none⟩), .int .i64 a] W fun e W' => e = .returned (.tuple #[.int .i64 (S.load a).1, .int .i64 (S.load a).2]) ∧ XPost PA W W' x fp S
  stats : ∀ (W : World) (x : Nat) (fp : Nat → Prop) (S : Ti.St) (a b : Int), PA W x fp S → Ti.Inv S →
    Calls Tryd.prog 18 #[.pointer (some ⟨x, 0, none⟩), .int .i64 a, .int .i64 b] W fun e W' => e = .returned (.tuple #[.agg #[.int .i64 (S.stats a b).1.1, .int .i64 (S.stats a b).1.2], .int .i64 (S.stats a b).2]) ∧ Ext none1 W W'
  frames : ∀ (W : World) (x : Nat) (fp : Nat → Prop) (S : Ti.St), PA W x fp S → Ti.Inv S →
    Calls Tryd.prog 17 #[.pointer (some ⟨x, 0, none⟩)] W fun e W' => e = .returned (.int .i64 (S.freeFrames : Nat)) ∧ Ext none1 W W'

theorem PPst.x {W W' : World} {x : Nat} {fp : Nat → Prop} {S' : Ti.St} (h : PPst W W' x fp S') : XPost PrIs W W' x fp S' := ⟨fp, h.1, h.2, fun _ hk => .inl hk⟩
/-- THE PROGRAM KEEPS IT -/
theorem face : Face PrIs True where
  keep := fun h hE hx h0 => h.keep hE hx h0
  pos := fun h => let ⟨_, _, _, _, _, _, _, _, _, _, h⟩ := h; h
  new := fun W h n s hg hok => let ⟨v, hv⟩ := hg; new_face W h n s v hv hok
  newNo := newNo_face
  malloc := fun W x fp S a b h hI _ => (malloc_face W x fp S a b h hI).mono (fun _ _ h => ⟨h.1, h.2.x⟩)
  free := fun W x fp S a h hI => (free_face W x fp S a h hI).mono (fun _ _ h => ⟨h.1, h.2.x⟩)
  store := fun W x fp S a v h hI a0 a1 => (store_face W x fp S a v h hI a0 a1).mono (fun _ _ h => ⟨h.1, h.2.x⟩)
  load := fun W x fp S a h hI a0 a1 => (load_face W x fp S a h hI a0 a1).mono (fun _ _ h => ⟨h.1, h.2.x⟩)
  stats := stats_face
  frames := freeFrames_face

/-- the two side by side -/
structure PairAt (PA : World → Nat → (Nat → Prop) → Ti.St → Prop) (W : World) (x r : Nat) (fp : Nat → Prop) (S : Ti.St) : Prop where
  el : ∃ fx fr, PA W x fx S ∧ RefIs W r fr S ∧ (∀ k, fx k → fr k → False) ∧ ∀ k, fp k ↔ (fx k ∨ fr k)
  lt : ∀ k, fp k → k < W.heap.size
  pos : ¬ fp 0

theorem PairAt.keep {PA : World → Nat → (Nat → Prop) → Ti.St → Prop} {big : Prop} (F : Face PA big) {W W' : World} {x r : Nat} {fp X : Nat → Prop} {S : Ti.St} (h : PairAt PA W x r fp S) (hE : Ext X W W') (hx : ∀ k, fp k → ¬ X k) (h0 : ¬ X 0) : PairAt PA W' x r fp S := by
  obtain ⟨⟨fx, fr, h1, h2, h3, h4⟩, hl, hp0⟩ := h
  exact ⟨⟨fx, fr, F.keep h1 hE (fun k hk => hx k ((h4 k).2 (.inl hk))) h0, h2.keep hE (fun k hk => hx k ((h4 k).2 (.inr hk))), h3, h4⟩, fun k hk => Nat.lt_of_lt_of_le (hl k hk) hE.size, hp0⟩

def PPost (PA : World → Nat → (Nat → Prop) → Ti.St → Prop) (W W' : World) (x r : Nat) (fp : Nat → Prop) (S' : Ti.St) : Prop :=
  ∃ fp', PairAt PA W' x r fp' S' ∧ Ext fp W W' ∧ ∀ k, fp' k → fp k ∨ W.heap.size ≤ k

/-- the program's call, then the document's -/
theorem PPost.of {PA : World → Nat → (Nat → Prop) → Ti.St → Prop} {big : Prop} (F : Face PA big) {W W1 W2 : World} {x r : Nat} {fp fx fr : Nat → Prop} {S' : Ti.St} (hd : ∀ k, fx k → fr k → False) (hf : ∀ k, fp k ↔ (fx k ∨ fr k)) (hl : ∀ k, fp k → k < W.heap.size) (hw0 : 0 < W.heap.size) (hp0 : ¬ fp 0)
    (h1 : XPost PA W W1 x fx S') (h2 : RPost W1 W2 r fr S') : PPost PA W W2 x r fp S' := by
  obtain ⟨fx', p1, e1, n1⟩ := h1
  obtain ⟨fr', p2, e2, n2⟩ := h2
  have s1 := e1.size
  have s2 := e2.size
  have lx : ∀ k, fx k → k < W.heap.size := fun k hk => hl k ((hf k).2 (.inl hk))
  have lr : ∀ k, fr k → k < W.heap.size := fun k hk => hl k ((hf k).2 (.inr hk))
  refine ⟨fun k => fx' k ∨ fr' k, ⟨⟨fx', fr', F.keep p1 e2 (fun k hk hr => ?_) (fun h => hp0 ((hf 0).2 (.inr h))), p2, fun k hk hr => ?_, fun k => Iff.rfl⟩, fun k hk => ?_, ?_⟩, ?_, fun k hk => ?_⟩
  · rcases n1 k hk with h | h
    · exact hd k h hr
    · have := lr k hr; omega
  · rcases n1 k hk with h | h <;> rcases n2 k hr with h' | h'
    · exact hd k h h'
    · have := lx k h; omega
    · have := lr k h'; omega
    · omega
  · rcases hk with hk | hk
    · rcases n1 k hk with h | h
      · have := lx k h; omega
      · omega
    · rcases n2 k hk with h | h
      · have := lr k h; omega
      · omega
  · rintro (h | h)
    · rcases n1 0 h with h | h
      · exact hp0 ((hf 0).2 (.inl h))
      · omega
    · rcases n2 0 h with h | h
      · exact hp0 ((hf 0).2 (.inr h))
      · omega
  · exact (e1.mono (fun k _ hk => (hf k).2 (.inl hk))).trans (e2.mono (fun k _ hk => (hf k).2 (.inr hk)))
  · rcases hk with hk | hk
    · rcases n1 k hk with h | h
      · exact .inl ((hf k).2 (.inl h))
      · exact .inr h.1
    · rcases n2 k hk with h | h
      · exact .inl ((hf k).2 (.inr h))
      · exact .inr (by omega)
end Go.Proofs.YtbagfepdmmfegaaDoor

namespace Go.Proofs.YtbagfepdmmfegaaDoor
open Go.RowKit

theorem PPost.before {PA : World → Nat → (Nat → Prop) → Ti.St → Prop} {W W0 W2 : World} {x r : Nat} {fp : Nat → Prop} {S' : Ti.St} (hE : Ext none1 W W0) (h : PPost PA W0 W2 x r fp S') : PPost PA W W2 x r fp S' := by
  obtain ⟨fp', p, e, n⟩ := h
  exact ⟨fp', p, (hE.mono (fun _ _ x => x.elim)).trans e, fun k hk => (n k hk).imp id (fun h => Nat.le_trans hE.size h)⟩
theorem PPost.same {PA : World → Nat → (Nat → Prop) → Ti.St → Prop} {big : Prop} (F : Face PA big) {W W0 : World} {x r : Nat} {fp : Nat → Prop} {S : Ti.St} (h : PairAt PA W x r fp S) (hE : Ext none1 W W0) : PPost PA W W0 x r fp S :=
  ⟨fp, h.keep F hE (fun _ _ x => x) (fun x => x), hE.mono (fun _ _ x => x.elim), fun _ hk => .inl hk⟩

theorem boxes (W : World) (a b : Obj) : ((W.alloc a).alloc b).heap[W.heap.size]? = some a ∧ ((W.alloc a).alloc b).heap[W.heap.size + 1]? = some b :=
  ⟨(Below.heap_alloc _ _ _ (by simp)).trans (heap_alloc_new _ _), by have := heap_alloc_new (W.alloc a) b; rwa [World.size_alloc] at this⟩

set_option maxRecDepth 100000 in
set_option maxHeartbeats 4000000 in
theorem done_free {PA : World → Nat → (Nat → Prop) → Ti.St → Prop} {big : Prop} (F : Face PA big) (W : World) (x r : Nat) (fp : Nat → Prop) (S : Ti.St) (hp : PairAt PA W x r fp S) (on a b h n s : Int) :
    Calls Tryd.prog 45 #[.agg #[.pointer (some ⟨x, 0, none⟩), .pointer (some ⟨r, 0, none⟩)], .agg #[.int .i64 3, .int .i64 on, .int .i64 a, .int .i64 b, .int .i64 h, .int .i64 n, .int .i64 s]] W fun e W' =>
      e = .returned (.bool true) ∧ ∃ S', PPost PA W W' x r fp S' := by
  obtain ⟨⟨fx, fr, h1, h2, h3, h4⟩, hl, hp0⟩ := hp
  have lx : ∀ k, fx k → k < W.heap.size := fun k hk => hl k ((h4 k).2 (.inl hk))
  have hI := h2.inv
  go_enter Tryd.func45, Tryd.ntmps45
  go_wp2_with fail
  obtain ⟨b0, b1⟩ := boxes W (.cells #[.pointer (some ⟨x, 0, none⟩), .pointer (some ⟨r, 0, none⟩)] 85) (.cells #[.int .i64 3, .int .i64 on, .int .i64 a, .int .i64 b, .int .i64 h, .int .i64 n, .int .i64 s] 65)
  have hE0 : Ext none1 W ((W.alloc (.cells #[.pointer (some ⟨x, 0, none⟩), .pointer (some ⟨r, 0, none⟩)] 85)).alloc (.cells #[.int .i64 3, .int .i64 on, .int .i64 a, .int .i64 b, .int .i64 h, .int .i64 n, .int .i64 s] 65)) := ((Ext.refl _ _).alloc _).alloc _
  generalize ((W.alloc (.cells #[.pointer (some ⟨x, 0, none⟩), .pointer (some ⟨r, 0, none⟩)] 85)).alloc (.cells #[.int .i64 3, .int .i64 on, .int .i64 a, .int .i64 b, .int .i64 h, .int .i64 n, .int .i64 s] 65)) = W0 at *
  refine (F.free W0 x fx S a (F.keep h1 hE0 (fun _ _ x => x) (fun x => x)) hI).mono ?_
  rintro e W1 ⟨rfl, hx⟩
  have hE1 : Ext fx W0 W1 := let ⟨_, _, e, _⟩ := hx; e
  have b0 := hE1.keep b0 (fun hh => by have := lx _ hh; omega)
  have b1 := hE1.keep b1 (fun hh => by have := lx _ hh; omega)
  have c0 := cell_of b0 1
  have c2 := cell_of b1 2
  have c3 := cell_of b1 3
  simp at c0 c2 c3
  have hr1 := (h2.keep hE0 (fun _ _ x => x)).keep hE1 (fun k hk hh => h3 k hh hk)
  go_wp2_with fail
  refine (refFree_is W1 r fr S a hr1).mono ?_
  rintro e W2 ⟨rfl, hr⟩
  have hP := PPost.before hE0 (PPost.of F h3 h4 (fun k hk => Nat.lt_of_lt_of_le (hl k hk) hE0.size) (Nat.lt_of_lt_of_le (Nat.lt_of_le_of_lt (Nat.zero_le _) h2.lt.1) hE0.size) hp0 hx hr)
  clear b0 b1 c0 c2 c3 hr1 hE1 hE0 hx hr
  go_wp2_with fail
  refine (num_any _ _).mono ?_
  rintro e W3 ⟨rfl, rfl⟩
  go_wp2_with fail
  go_ret
  exact ⟨by simp, _, hP⟩

set_option maxRecDepth 100000 in
set_option maxHeartbeats 4000000 in
theorem done_store {PA : World → Nat → (Nat → Prop) → Ti.St → Prop} {big : Prop} (F : Face PA big) (W : World) (x r : Nat) (fp : Nat → Prop) (S : Ti.St) (hp : PairAt PA W x r fp S) (on a b h n s : Int) (a0 : -9223372036854775808 ≤ a) (a1 : a ≤ 9223372036854775807) :
    Calls Tryd.prog 45 #[.agg #[.pointer (some ⟨x, 0, none⟩), .pointer (some ⟨r, 0, none⟩)], .agg #[.int .i64 4, .int .i64 on, .int .i64 a, .int .i64 b, .int .i64 h, .int .i64 n, .int .i64 s]] W fun e W' =>
      e = .returned (.bool true) ∧ ∃ S', PPost PA W W' x r fp S' := by
  obtain ⟨⟨fx, fr, h1, h2, h3, h4⟩, hl, hp0⟩ := hp
  have lx : ∀ k, fx k → k < W.heap.size := fun k hk => hl k ((h4 k).2 (.inl hk))
  have hI := h2.inv
  go_enter Tryd.func45, Tryd.ntmps45
  go_wp2_with fail
  obtain ⟨b0, b1⟩ := boxes W (.cells #[.pointer (some ⟨x, 0, none⟩), .pointer (some ⟨r, 0, none⟩)] 85) (.cells #[.int .i64 4, .int .i64 on, .int .i64 a, .int .i64 b, .int .i64 h, .int .i64 n, .int .i64 s] 65)
  have hE0 : Ext none1 W ((W.alloc (.cells #[.pointer (some ⟨x, 0, none⟩), .pointer (some ⟨r, 0, none⟩)] 85)).alloc (.cells #[.int .i64 4, .int .i64 on, .int .i64 a, .int .i64 b, .int .i64 h, .int .i64 n, .int .i64 s] 65)) := ((Ext.refl _ _).alloc _).alloc _
  generalize ((W.alloc (.cells #[.pointer (some ⟨x, 0, none⟩), .pointer (some ⟨r, 0, none⟩)] 85)).alloc (.cells #[.int .i64 4, .int .i64 on, .int .i64 a, .int .i64 b, .int .i64 h, .int .i64 n, .int .i64 s] 65)) = W0 at *
  refine (F.store W0 x fx S a b (F.keep h1 hE0 (fun _ _ x => x) (fun x => x)) hI a0 a1).mono ?_
  rintro e W1 ⟨rfl, hx⟩
  have hE1 : Ext fx W0 W1 := let ⟨_, _, e, _⟩ := hx; e
  have b0 := hE1.keep b0 (fun hh => by have := lx _ hh; omega)
  have b1 := hE1.keep b1 (fun hh => by have := lx _ hh; omega)
  have c0 := cell_of b0 1
  have c2 := cell_of b1 2
  have c3 := cell_of b1 3
  simp at c0 c2 c3
  have hr1 := (h2.keep hE0 (fun _ _ x => x)).keep hE1 (fun k hk hh => h3 k hh hk)
  go_wp2_with fail
  refine (refStore_is W1 r fr S a b hr1).mono ?_
  rintro e W2 ⟨rfl, hr⟩
  have hP := PPost.before hE0 (PPost.of F h3 h4 (fun k hk => Nat.lt_of_lt_of_le (hl k hk) hE0.size) (Nat.lt_of_lt_of_le (Nat.lt_of_le_of_lt (Nat.zero_le _) h2.lt.1) hE0.size) hp0 hx hr)
  clear b0 b1 c0 c2 c3 hr1 hE1 hE0 hx hr
  go_wp2_with fail
  refine (num_any _ _).mono ?_
  rintro e W3 ⟨rfl, rfl⟩
  go_wp2_with fail
  go_ret
  exact ⟨by simp, _, hP⟩

set_option maxRecDepth 100000 in
set_option maxHeartbeats 4000000 in
theorem done_load {PA : World → Nat → (Nat → Prop) → Ti.St → Prop} {big : Prop} (F : Face PA big) (W : World) (x r : Nat) (fp : Nat → Prop) (S : Ti.St) (hp : PairAt PA W x r fp S) (on a b h n s : Int) (a0 : -9223372036854775808 ≤ a) (a1 : a ≤ 9223372036854775807) :
    Calls Tryd.prog 45 #[.agg #[.pointer (some ⟨x, 0, none⟩), .pointer (some ⟨r, 0, none⟩)], .agg #[.int .i64 5, .int .i64 on, .int .i64 a, .int .i64 b, .int .i64 h, .int .i64 n, .int .i64 s]] W fun e W' =>
      e = .returned (.bool true) ∧ ∃ S', PPost PA W W' x r fp S' := by
  obtain ⟨⟨fx, fr, h1, h2, h3, h4⟩, hl, hp0⟩ := hp
  have lx : ∀ k, fx k → k < W.heap.size := fun k hk => hl k ((h4 k).2 (.inl hk))
  have hI := h2.inv
  go_enter Tryd.func45, Tryd.ntmps45
  go_wp2_with fail
  obtain ⟨b0, b1⟩ := boxes W (.cells #[.pointer (some ⟨x, 0, none⟩), .pointer (some ⟨r, 0, none⟩)] 85) (.cells #[.int .i64 5, .int .i64 on, .int .i64 a, .int .i64 b, .int .i64 h, .int .i64 n, .int .i64 s] 65)
  have hE0 : Ext none1 W ((W.alloc (.cells #[.pointer (some ⟨x, 0, none⟩), .pointer (some ⟨r, 0, none⟩)] 85)).alloc (.cells #[.int .i64 5, .int .i64 on, .int .i64 a, .int .i64 b, .int .i64 h, .int .i64 n, .int .i64 s] 65)) := ((Ext.refl _ _).alloc _).alloc _
  generalize ((W.alloc (.cells #[.pointer (some ⟨x, 0, none⟩), .pointer (some ⟨r, 0, none⟩)] 85)).alloc (.cells #[.int .i64 5, .int .i64 on, .int .i64 a, .int .i64 b, .int .i64 h, .int .i64 n, .int .i64 s] 65)) = W0 at *
  refine (F.load W0 x fx S a (F.keep h1 hE0 (fun _ _ x => x) (fun x => x)) hI a0 a1).mono ?_
  rintro e W1 ⟨rfl, hx⟩
  have hE1 : Ext fx W0 W1 := let ⟨_, _, e, _⟩ := hx; e
  have b0 := hE1.keep b0 (fun hh => by have := lx _ hh; omega)
  have b1 := hE1.keep b1 (fun hh => by have := lx _ hh; omega)
  have c0 := cell_of b0 1
  have c2 := cell_of b1 2
  have c3 := cell_of b1 3
  simp at c0 c2 c3
  have hr1 := (h2.keep hE0 (fun _ _ x => x)).keep hE1 (fun k hk hh => h3 k hh hk)
  go_wp2_with fail
  refine (refLoad_is W1 r fr S a hr1).mono ?_
  rintro e W2 ⟨rfl, hr⟩
  have hP := PPost.before hE0 (PPost.of F h3 h4 (fun k hk => Nat.lt_of_lt_of_le (hl k hk) hE0.size) (Nat.lt_of_lt_of_le (Nat.lt_of_le_of_lt (Nat.zero_le _) h2.lt.1) hE0.size) hp0 hx hr)
  clear b0 b1 c0 c2 c3 hr1 hE1 hE0 hx hr
  go_wp2_with fail
  refine (num_any _ _).mono ?_
  rintro e W3 ⟨rfl, rfl⟩
  go_wp2_with fail
  go_ret
  exact ⟨by simp, _, hP⟩

set_option maxRecDepth 100000 in
set_option maxHeartbeats 4000000 in
theorem done_small {PA : World → Nat → (Nat → Prop) → Ti.St → Prop} {big : Prop} (F : Face PA big) (W : World) (x r : Nat) (fp : Nat → Prop) (S : Ti.St) (hp : PairAt PA W x r fp S) (on a b h n s : Int) (hb : b ≤ 32) :
    Calls Tryd.prog 45 #[.agg #[.pointer (some ⟨x, 0, none⟩), .pointer (some ⟨r, 0, none⟩)], .agg #[.int .i64 2, .int .i64 on, .int .i64 a, .int .i64 b, .int .i64 h, .int .i64 n, .int .i64 s]] W fun e W' =>
      e = .returned (.bool true) ∧ ∃ S', PPost PA W W' x r fp S' := by
  obtain ⟨⟨fx, fr, h1, h2, h3, h4⟩, hl, hp0⟩ := hp
  have lx : ∀ k, fx k → k < W.heap.size := fun k hk => hl k ((h4 k).2 (.inl hk))
  have hI := h2.inv
  go_enter Tryd.func45, Tryd.ntmps45
  go_wp2_with fail
  obtain ⟨b0, b1⟩ := boxes W (.cells #[.pointer (some ⟨x, 0, none⟩), .pointer (some ⟨r, 0, none⟩)] 85) (.cells #[.int .i64 2, .int .i64 on, .int .i64 a, .int .i64 b, .int .i64 h, .int .i64 n, .int .i64 s] 65)
  have hE0 : Ext none1 W ((W.alloc (.cells #[.pointer (some ⟨x, 0, none⟩), .pointer (some ⟨r, 0, none⟩)] 85)).alloc (.cells #[.int .i64 2, .int .i64 on, .int .i64 a, .int .i64 b, .int .i64 h, .int .i64 n, .int .i64 s] 65)) := ((Ext.refl _ _).alloc _).alloc _
  generalize ((W.alloc (.cells #[.pointer (some ⟨x, 0, none⟩), .pointer (some ⟨r, 0, none⟩)] 85)).alloc (.cells #[.int .i64 2, .int .i64 on, .int .i64 a, .int .i64 b, .int .i64 h, .int .i64 n, .int .i64 s] 65)) = W0 at *
  refine (F.malloc W0 x fx S a b (F.keep h1 hE0 (fun _ _ x => x) (fun x => x)) hI (.inl hb)).mono ?_
  rintro e W1 ⟨rfl, hx⟩
  have hE1 : Ext fx W0 W1 := let ⟨_, _, e, _⟩ := hx; e
  have b0 := hE1.keep b0 (fun hh => by have := lx _ hh; omega)
  have b1 := hE1.keep b1 (fun hh => by have := lx _ hh; omega)
  have c0 := cell_of b0 1
  have c2 := cell_of b1 2
  have c3 := cell_of b1 3
  simp at c0 c2 c3
  have hr1 := (h2.keep hE0 (fun _ _ x => x)).keep hE1 (fun k hk hh => h3 k hh hk)
  go_wp2_with fail
  refine (refMalloc_is W1 r fr S a b hr1).mono ?_
  rintro e W2 ⟨rfl, hr⟩
  have hP := PPost.before hE0 (PPost.of F h3 h4 (fun k hk => Nat.lt_of_lt_of_le (hl k hk) hE0.size) (Nat.lt_of_lt_of_le (Nat.lt_of_le_of_lt (Nat.zero_le _) h2.lt.1) hE0.size) hp0 hx hr)
  clear b0 b1 c0 c2 c3 hr1 hE1 hE0 hx hr
  go_wp2_with fail
  refine (num_any _ _).mono ?_
  rintro e W3 ⟨rfl, rfl⟩
  go_wp2_with fail
  go_ret
  exact ⟨by simp, _, hP⟩
end Go.Proofs.YtbagfepdmmfegaaDoor

namespace Go.Proofs.YtbagfepdmmfegaaDoor
open Go.RowKit

set_option maxRecDepth 100000 in
set_option maxHeartbeats 4000000 in
theorem done_over {PA : World → Nat → (Nat → Prop) → Ti.St → Prop} {big : Prop} (F : Face PA big) (W : World) (x r : Nat) (fp : Nat → Prop) (S : Ti.St) (hp : PairAt PA W x r fp S) (on a b h n s : Int) (hb : 32 < b) :
    Calls Tryd.prog 45 #[.agg #[.pointer (some ⟨x, 0, none⟩), .pointer (some ⟨r, 0, none⟩)], .agg #[.int .i64 2, .int .i64 on, .int .i64 a, .int .i64 b, .int .i64 h, .int .i64 n, .int .i64 s]] W fun e W' =>
      e = .returned (.bool true) ∧ ∃ S', PPost PA W W' x r fp S' := by
  go_enter Tryd.func45, Tryd.ntmps45
  go_wp2_with fail
  go_ret
  exact ⟨rfl, S, PPost.same F hp (((Ext.refl _ _).alloc _).alloc _)⟩

set_option maxRecDepth 100000 in
set_option maxHeartbeats 4000000 in
theorem done_none {PA : World → Nat → (Nat → Prop) → Ti.St → Prop} {big : Prop} (F : Face PA big) (W : World) (x r : Nat) (fp : Nat → Prop) (S : Ti.St) (hp : PairAt PA W x r fp S) (k on a b h n s : Int) (hk : k < 2 ∨ 9 < k) :
    Calls Tryd.prog 45 #[.agg #[.pointer (some ⟨x, 0, none⟩), .pointer (some ⟨r, 0, none⟩)], .agg #[.int .i64 k, .int .i64 on, .int .i64 a, .int .i64 b, .int .i64 h, .int .i64 n, .int .i64 s]] W fun e W' =>
      e = .returned (.bool true) ∧ ∃ S', PPost PA W W' x r fp S' := by
  have k2 : (k == 2) = false := by simp; omega
  have k3 : (k == 3) = false := by simp; omega
  have k4 : (k == 4) = false := by simp; omega
  have k5 : (k == 5) = false := by simp; omega
  have k6 : (k == 6) = false := by simp; omega
  have k7 : (k == 7) = false := by simp; omega
  have k8 : (k == 8) = false := by simp; omega
  have k9 : (k == 9) = false := by simp; omega
  clear hk
  go_enter Tryd.func45, Tryd.ntmps45
  go_wp2_with fail
  go_ret
  exact ⟨rfl, S, PPost.same F hp (((Ext.refl _ _).alloc _).alloc _)⟩

theorem done_smalls {PA : World → Nat → (Nat → Prop) → Ti.St → Prop} {big : Prop} (F : Face PA big) (W : World) (x r : Nat) (fp : Nat → Prop) (S : Ti.St) (hp : PairAt PA W x r fp S) (k on a b h n s : Int) (hk : k ≤ 5) (a0 : -9223372036854775808 ≤ a) (a1 : a ≤ 9223372036854775807) :
    Calls Tryd.prog 45 #[.agg #[.pointer (some ⟨x, 0, none⟩), .pointer (some ⟨r, 0, none⟩)], .agg #[.int .i64 k, .int .i64 on, .int .i64 a, .int .i64 b, .int .i64 h, .int .i64 n, .int .i64 s]] W fun e W' =>
      e = .returned (.bool true) ∧ ∃ S', PPost PA W W' x r fp S' := by
  by_cases e2 : k = 2
  · subst e2
    by_cases hb : b ≤ 32
    · exact done_small F W x r fp S hp on a b h n s hb
    · exact done_over F W x r fp S hp on a b h n s (by omega)
  · by_cases e3 : k = 3
    · subst e3; exact done_free F W x r fp S hp on a b h n s
    · by_cases e4 : k = 4
      · subst e4; exact done_store F W x r fp S hp on a b h n s a0 a1
      · by_cases e5 : k = 5
        · subst e5; exact done_load F W x r fp S hp on a b h n s a0 a1
        · exact done_none F W x r fp S hp k on a b h n s (by omega)
end Go.Proofs.YtbagfepdmmfegaaDoor

/- ALL TITHES OF A SCRIPT, side by side. -/
namespace Go.Proofs.YtbagfepdmmfegaaDoor
open Go.RowKit

structure Ent where
  x : Nat
  r : Nat
  fp : Nat → Prop
  S : Ti.St

def enc (L : List Ent) : List Value := L.flatMap fun e => [.pointer (some ⟨e.x, 0, none⟩), .pointer (some ⟨e.r, 0, none⟩)]

structure AllAt (PA : World → Nat → (Nat → Prop) → Ti.St → Prop) (W : World) (wl base : Nat) (foot : Nat → Prop) (L : List Ent) : Prop where
  box : ∃ v, W.heap[wl]? = some (.cells #[v] 63 (0, 0)) ∧ W.ownsRow base 85 2 v L.length (enc L) ∧ ∀ g, v.ownBlock = some g → foot g ∧ ∀ e ∈ L, ¬ e.fp g
  flt : ∀ k, foot k → k < W.heap.size
  fwl : foot wl
  ffp : ∀ e ∈ L, ∀ k, e.fp k → foot k
  low : wl < base
  nbox : ∀ e ∈ L, ¬ e.fp wl
  pairs : ∀ e ∈ L, PairAt PA W e.x e.r e.fp e.S
  apart : ∀ (i j : Nat) (a b : Ent), L[i]? = some a → L[j]? = some b → i ≠ j → ∀ k, a.fp k → b.fp k → False
  fpos : ¬ foot 0
  glob : GlobAt W

theorem ownsRow_ext {X : Nat → Prop} {W W' : World} {base : Nat} {e : TypeId} {size : Nat} {v : Value} {n : Nat} {xs : List Value} (h : W.ownsRow base e size v n xs) (hE : Ext X W W') (hx : ∀ g, v.ownBlock = some g → ¬ X g) : W'.ownsRow base e size v n xs := by
  obtain ⟨h1, h2⟩ := h
  refine ⟨h1, ?_⟩
  rcases h2 with h2 | ⟨g, cap, cur, hv, hg, hh, r⟩
  · exact Or.inl h2
  · exact Or.inr ⟨g, cap, cur, hv, hg, hE.keep hh (hx g (by rw [hv]; rfl)), r⟩

/-- what a step leaves: as many as 'm' -/
def AllPost (PA : World → Nat → (Nat → Prop) → Ti.St → Prop) (W W' : World) (wl base : Nat) (foot : Nat → Prop) (m : Nat) : Prop :=
  ∃ foot' L', L'.length = m ∧ AllAt PA W' wl base foot' L' ∧ Ext foot W W' ∧ ∀ k, foot' k → foot k ∨ W.heap.size ≤ k

theorem enc_set (L : List Ent) (i : Nat) (a : Ent) (hi : L[i]? = some a) (b : Ent) (hx : b.x = a.x) (hr : b.r = a.r) : enc (L.set i b) = enc L := by
  induction L generalizing i with
  | nil => cases hi
  | cons c t ih =>
    cases i with
    | zero =>
      obtain rfl : c = a := by simpa using hi
      simp [enc, hx, hr]
    | succ i =>
      have := ih i (by simpa using hi)
      simp only [enc, List.set_cons_succ, List.flatMap_cons] at this ⊢
      rw [this]

/-- one of them is changed -/
theorem AllAt.step {PA : World → Nat → (Nat → Prop) → Ti.St → Prop} {big : Prop} (F : Face PA big) {W W' : World} {wl base : Nat} {L : List Ent} {foot : Nat → Prop} (h : AllAt PA W wl base foot L) (i : Nat) (a : Ent) (hi : L[i]? = some a) {S' : Ti.St} (hp : PPost PA W W' a.x a.r a.fp S') :
    AllPost PA W W' wl base foot L.length := by
  obtain ⟨fp', p, e, n⟩ := hp
  have hil : i < L.length := by
    rcases Nat.lt_or_ge i L.length with h | h
    · exact h
    · rw [List.getElem?_eq_none h] at hi; cases hi
  have ham : a ∈ L := List.mem_of_getElem? hi
  obtain ⟨v, b1, b2, b3⟩ := h.box
  have hwl := lt_of_heap b1
  have hnew : ∀ k, k < W.heap.size → ¬ a.fp k → ¬ fp' k := fun k hk hn hf => by
    rcases n k hf with h | h
    · exact hn h
    · omega
  have hmem : ∀ c ∈ L.set i ⟨a.x, a.r, fp', S'⟩, c = ⟨a.x, a.r, fp', S'⟩ ∨ ∃ j, j ≠ i ∧ L[j]? = some c := by
    intro c hc
    obtain ⟨j, hj⟩ := List.getElem?_of_mem hc
    by_cases e : i = j
    · subst e
      rw [List.getElem?_set_self hil] at hj
      exact .inl (Option.some.inj hj).symm
    · rw [List.getElem?_set_ne e] at hj
      exact .inr ⟨j, fun x => e x.symm, hj⟩
  refine ⟨fun k => foot k ∨ fp' k, L.set i ⟨a.x, a.r, fp', S'⟩, by simp, ⟨?_, ?_, .inl h.fwl, ?_, h.low, ?_, ?_, ?_, ?_, h.glob.keep e (h.pairs a ham).pos⟩, e.mono (fun k _ hk => h.ffp a ham k hk), ?_⟩
  · refine ⟨v, e.keep b1 (h.nbox a ham), ?_, fun g hg => ⟨.inl (b3 g hg).1, fun c hc => ?_⟩⟩
    · rw [List.length_set, enc_set L i a hi ⟨a.x, a.r, fp', S'⟩ rfl rfl]
      exact ownsRow_ext b2 e (fun g hg => (b3 g hg).2 a ham)
    · rcases hmem c hc with rfl | ⟨j, _, hj⟩
      · exact hnew g (h.flt g (b3 g hg).1) ((b3 g hg).2 a ham)
      · exact (b3 g hg).2 c (List.mem_of_getElem? hj)
  · rintro k (hk | hk)
    · exact Nat.lt_of_lt_of_le (h.flt k hk) e.size
    · exact p.lt k hk
  · intro c hc k hk
    rcases hmem c hc with rfl | ⟨j, _, hj⟩
    · exact .inr hk
    · exact .inl (h.ffp c (List.mem_of_getElem? hj) k hk)
  · intro c hc
    rcases hmem c hc with rfl | ⟨j, _, hj⟩
    · exact hnew wl hwl (h.nbox a ham)
    · exact h.nbox c (List.mem_of_getElem? hj)
  · intro c hc
    rcases hmem c hc with rfl | ⟨j, hne, hj⟩
    · exact p
    · exact (h.pairs c (List.mem_of_getElem? hj)).keep F e (fun k hk hk' => h.apart j i c a hj hi hne k hk hk') (h.pairs a ham).pos
  · intro j1 j2 c d hc hd hne k hk1 hk2
    by_cases e1 : i = j1
    · subst e1
      rw [List.getElem?_set_self hil] at hc
      obtain rfl := Option.some.inj hc
      rw [List.getElem?_set_ne hne] at hd
      have hl := (h.pairs d (List.mem_of_getElem? hd)).lt k hk2
      rcases n k hk1 with hh | hh
      · exact h.apart i j2 a d hi hd hne k hh hk2
      · omega
    · rw [List.getElem?_set_ne e1] at hc
      by_cases e2 : i = j2
      · subst e2
        rw [List.getElem?_set_self hil] at hd
        obtain rfl := Option.some.inj hd
        have hl := (h.pairs c (List.mem_of_getElem? hc)).lt k hk1
        rcases n k hk2 with hh | hh
        · exact h.apart j1 i c a hc hi hne k hk1 hh
        · omega
      · rw [List.getElem?_set_ne e2] at hd
        exact h.apart j1 j2 c d hc hd hne k hk1 hk2
  · rintro (hk | hk)
    · exact h.fpos hk
    · exact p.pos hk
  · rintro k (hk | hk)
    · exact .inl hk
    · exact (n k hk).imp (fun hh => h.ffp a ham k hh) id

/-- nothing of theirs is changed -/
theorem AllAt.keep {PA : World → Nat → (Nat → Prop) → Ti.St → Prop} {big : Prop} (F : Face PA big) {W W' : World} {wl base : Nat} {foot X : Nat → Prop} {L : List Ent} (h : AllAt PA W wl base foot L) (hE : Ext X W W') (hx : ∀ k, foot k → ¬ X k) (h0 : ¬ X 0) : AllAt PA W' wl base foot L := by
  obtain ⟨v, b1, b2, b3⟩ := h.box
  exact ⟨⟨v, hE.keep b1 (hx _ h.fwl), ownsRow_ext b2 hE (fun g hg => hx g (b3 g hg).1), b3⟩, fun k hk => Nat.lt_of_lt_of_le (h.flt k hk) hE.size, h.fwl, h.ffp, h.low, h.nbox, fun c hc => (h.pairs c hc).keep F hE (fun k hk => hx k (h.ffp c hc k hk)) h0, h.apart, h.fpos, h.glob.keep hE h0⟩
end Go.Proofs.YtbagfepdmmfegaaDoor
