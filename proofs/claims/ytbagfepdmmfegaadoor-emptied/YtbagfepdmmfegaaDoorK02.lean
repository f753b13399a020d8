import Derived.Test.YtbagfepdmmfegaaDoorRows
import Derived.Test.YtbagfepdmmfegaaDoorK01
import Derived.WalkKit
import Derived.WalkSpells
import Derived.WalkLawsBesides
set_option linter.unusedVariables false
set_option linter.unusedSimpArgs false
/- WHAT LIES IN MEMORY: the reference's tithe; what a call leaves as it was. -/
namespace Go.Proofs.YtbagfepdmmfegaaDoor
open Go.RowKit

/-- all that lay there lies as it lay, but for the blocks of X -/
structure Ext (X : Nat → Prop) (w w' : World) : Prop where
  os : w'.os = w.os
  tape : w'.tape = w.tape
  output : w'.output = w.output
  size : w.heap.size ≤ w'.heap.size
  block : ∀ k, k < w.heap.size → ¬ X k → w'.heap[k]? = w.heap[k]?

def none1 : Nat → Prop := fun _ => False
def one (a : Nat) : Nat → Prop := fun k => k = a

theorem Ext.refl (X : Nat → Prop) (w : World) : Ext X w w := ⟨rfl, rfl, rfl, Nat.le_refl _, fun _ _ _ => rfl⟩
theorem Ext.mono {X Y : Nat → Prop} {w w' : World} (h : Ext X w w') (hx : ∀ k, k < w.heap.size → X k → Y k) : Ext Y w w' :=
  ⟨h.os, h.tape, h.output, h.size, fun k hk hn => h.block k hk (fun hX => hn (hx k hk hX))⟩
theorem Ext.trans' {X Y : Nat → Prop} {a b c : World} (h : Ext X a b) (k : Ext Y b c) (hy : ∀ j, j < a.heap.size → Y j → X j) : Ext X a c :=
  ⟨k.os.trans h.os, k.tape.trans h.tape, k.output.trans h.output, Nat.le_trans h.size k.size, fun i hi hn =>
    (k.block i (Nat.lt_of_lt_of_le hi h.size) (fun hY => hn (hy i hi hY))).trans (h.block i hi hn)⟩
theorem Ext.trans {X : Nat → Prop} {a b c : World} (h : Ext X a b) (k : Ext X b c) : Ext X a c := h.trans' k (fun _ _ x => x)
theorem Ext.of_below {X : Nat → Prop} {w w' : World} (h : Below w.heap.size w w') : Ext X w w' :=
  ⟨h.os, h.tape, h.output, h.size, fun k hk _ => h.block k hk⟩
theorem Ext.below {w w' : World} (h : Ext none1 w w') : Below w.heap.size w w' :=
  ⟨h.os, h.tape, h.output, h.size, fun k hk => h.block k hk (fun x => x)⟩
theorem Ext.alloc {X : Nat → Prop} {a w : World} (h : Ext X a w) (o : Obj) : Ext X a (w.alloc o) :=
  h.trans (Ext.of_below ((Below.refl _ w).alloc (Nat.le_refl _) o))
theorem Ext.drew {X : Nat → Prop} {a w : World} (h : Ext X a w) : Ext X a w.drew :=
  h.trans (Ext.of_below ((Below.refl _ w).drew))
theorem Ext.setCell {X : Nat → Prop} {a w : World} (h : Ext X a w) (p : Addr) (hp : X p.block ∨ a.heap.size ≤ p.block) (u : Value) : Ext X a (w.setCell p u) :=
  h.trans' (Y := one p.block) ⟨rfl, rfl, rfl, by simp [World.setCell], fun k _ hn => Below.heap_setCell _ _ _ _ hn⟩
    (fun j hj e => by cases e; rcases hp with hp | hp; exact hp; omega)
theorem Ext.keep {X : Nat → Prop} {w w' : World} (h : Ext X w w') {k : Nat} {o : Obj} (hk : w.heap[k]? = some o) (hn : ¬ X k) : w'.heap[k]? = some o := by
  have hlt : k < w.heap.size := (Array.getElem?_eq_some_iff.1 hk).1
  rw [h.block k hlt hn]; exact hk

theorem lt_of_heap {w : World} {k : Nat} {o : Obj} (hk : w.heap[k]? = some o) : k < w.heap.size := (Array.getElem?_eq_some_iff.1 hk).1
theorem cell_of {w : World} {b : Nat} {c : Array Value} {T : TypeId} {f : Nat × Nat} (h : w.heap[b]? = some (.cells c T f)) (o : Nat) : w.cell? ⟨b, o, none⟩ = c[o]? := by
  simp [World.cell?, h]
theorem frozen_of {w : World} {b : Nat} {c : Array Value} {T : TypeId} (h : w.heap[b]? = some (.cells c T (0, 0))) (o : Nat) : w.frozen? ⟨b, o, none⟩ = false := by
  simp [World.frozen?, h]
theorem heap_set {w : World} {b : Nat} {c : Array Value} {T : TypeId} {f : Nat × Nat} (h : w.heap[b]? = some (.cells c T f)) (o : Nat) (v : Value) :
    (w.setCell ⟨b, o, none⟩ v).heap[b]? = some (.cells (c.setIfInBounds o v) T f) := by
  simp [World.setCell, Array.getElem?_modify, h]
theorem heap_set_ne {w : World} {b b' : Nat} (hne : b' ≠ b) (o : Nat) (v : Value) : (w.setCell ⟨b, o, none⟩ v).heap[b']? = w.heap[b']? :=
  Below.heap_setCell _ _ _ _ hne

/-! ### the reference's tithe -/
def SupsAt (w : World) (bf : Nat) (S : Ti.St) : Prop :=
  ∃ c, w.heap[bf]? = some (.cells c 136 (0, 0)) ∧ c.size = S.sups.length * 3 ∧
    ∀ k, k < S.sups.length → c[k * 3]? = some (.bool (S.sup k).is) ∧ c[k * 3 + 1]? = some (.int .i64 (S.sup k).cls) ∧ c[k * 3 + 2]? = some (.int .i64 (S.sup k).heap)
def BytesAt (w : World) (bz : Nat) (l : List Int) : Prop :=
  ∃ c, w.heap[bz]? = some (.cells c 3 (0, 0)) ∧ c.size = l.length ∧ ∀ k, k < l.length → c[k]? = some (.int .i64 (l[k]?.getD 0))
def BlocksIn (w : World) (p : Option Addr) (bs : List (Int × Int)) : Prop :=
  ∀ k, k < bs.length → ∃ bb c f, p = some ⟨bb, 0, none⟩ ∧ w.heap[bb]? = some (.cells c 134 f) ∧
    c[k * 2]? = some (.int .i64 (Ti.bk bs k).1) ∧ c[k * 2 + 1]? = some (.int .i64 (Ti.bk bs k).2)

structure RefAt (w : World) (r bf bz : Nat) (p : Option Addr) (cap : Nat) (S : Ti.St) : Prop where
  hd : w.heap[r]? = some (.cells #[.int .i64 S.heaps, .int .i64 S.sups.length, .int .i64 S.slack, .slice (some ⟨bf, 0, none⟩) S.sups.length S.sups.length,
    .slice p S.blocks.length cap, .slice (some ⟨bz, 0, none⟩) S.bytes.length S.bytes.length] 131 (0, 0))
  sups : SupsAt w bf S
  bytes : BytesAt w bz S.bytes
  blocks : BlocksIn w p S.blocks
  le : S.blocks.length ≤ cap

theorem SupsAt.keep {w w' : World} {X : Nat → Prop} {bf : Nat} {S : Ti.St} (h : SupsAt w bf S) (he : Ext X w w') (hn : ¬ X bf) : SupsAt w' bf S :=
  let ⟨c, h1, h2, h3⟩ := h; ⟨c, he.keep h1 hn, h2, h3⟩
theorem BytesAt.keep {w w' : World} {X : Nat → Prop} {bz : Nat} {l : List Int} (h : BytesAt w bz l) (he : Ext X w w') (hn : ¬ X bz) : BytesAt w' bz l :=
  let ⟨c, h1, h2, h3⟩ := h; ⟨c, he.keep h1 hn, h2, h3⟩
theorem BlocksIn.keep {w w' : World} {X : Nat → Prop} {p : Option Addr} {bs : List (Int × Int)} (h : BlocksIn w p bs) (he : Ext X w w') (hn : ∀ a, p = some a → ¬ X a.block) : BlocksIn w' p bs :=
  fun k hk => let ⟨bb, c, f, h1, h2, h3⟩ := h k hk; ⟨bb, c, f, h1, he.keep h2 (hn _ h1), h3⟩
theorem RefAt.keep {w w' : World} {X : Nat → Prop} {r bf bz cap : Nat} {p : Option Addr} {S : Ti.St} (h : RefAt w r bf bz p cap S) (he : Ext X w w')
    (h1 : ¬ X r) (h2 : ¬ X bf) (h3 : ¬ X bz) (h4 : ∀ a, p = some a → ¬ X a.block) : RefAt w' r bf bz p cap S :=
  ⟨he.keep h.hd h1, h.sups.keep he h2, h.bytes.keep he h3, h.blocks.keep he h4, h.le⟩
theorem RefAt.keep0 {w w' : World} {r bf bz cap : Nat} {p : Option Addr} {S : Ti.St} (h : RefAt w r bf bz p cap S) (he : Ext none1 w w') : RefAt w' r bf bz p cap S :=
  h.keep he (fun x => x) (fun x => x) (fun x => x) (fun _ _ x => x)

/-- the numbers are small -/
structure Bd (S : Ti.St) : Prop where
  h1 : 1 ≤ S.heaps
  h4 : S.heaps ≤ 4
  s1 : 1 ≤ S.slack
  s4 : S.slack ≤ 4
  f16 : S.sups.length ≤ 16
  b1024 : S.blocks.length ≤ 1024
  bz : S.bytes.length = 64 * S.sups.length
  at0 : ∀ k, k < S.blocks.length → 0 ≤ (Ti.bk S.blocks k).1 ∧ (Ti.bk S.blocks k).1 ≤ 1024 ∧ 1 ≤ (Ti.bk S.blocks k).2 ∧ (Ti.bk S.blocks k).2 ≤ 256

theorem usedTo_le (bs : List (Int × Int)) (f : Int) (k : Nat) : Ti.usedTo bs f k ≤ k := by
  induction k with
  | zero => simp [Ti.usedTo]
  | succ k ih => simp only [Ti.usedTo]; split <;> omega
end Go.Proofs.YtbagfepdmmfegaaDoor

namespace Go.Proofs.YtbagfepdmmfegaaDoor
open Go.RowKit

set_option maxHeartbeats 400000 in
theorem width_any (k : Int) (w : World) :
    Calls Tryd.prog 89 #[.int .i64 k] w fun e w' => e = .returned (.int .i64 (Ti.width k)) ∧ w = w' := by
  unfold Ti.width
  by_cases h0 : k = 0
  · subst h0
    go_enter Tryd.func89, Tryd.ntmps89
    go_wp2
    go_ret
    exact ⟨rfl, rfl⟩
  · by_cases h1 : k = 1
    · subst h1
      go_enter Tryd.func89, Tryd.ntmps89
      go_wp2
      go_ret
      exact ⟨rfl, rfl⟩
    · rw [if_neg h0, if_neg h1]
      have b0 : (k == 0) = false := beq_eq_false_iff_ne.2 h0
      have b1 : (k == 1) = false := beq_eq_false_iff_ne.2 h1
      clear h0 h1
      go_enter Tryd.func89, Tryd.ntmps89
      go_wp2
      go_ret
      exact ⟨rfl, rfl⟩

theorem width_cases (k : Int) : Ti.width k = 8 ∧ Ti.slots k = 8 ∨ Ti.width k = 16 ∧ Ti.slots k = 4 ∨ Ti.width k = 32 ∧ Ti.slots k = 2 := by
  unfold Ti.width Ti.slots
  by_cases h0 : k = 0
  · simp [h0]
  · by_cases h1 : k = 1 <;> simp [h0, h1]

set_option maxHeartbeats 400000 in
theorem slots_any (k : Int) (w : World) :
    Calls Tryd.prog 103 #[.int .i64 k] w fun e w' => e = .returned (.int .i64 (Ti.slots k)) ∧ w = w' := by
  have hw := width_cases k
  generalize Ti.slots k = s at *
  go_enter Tryd.func103, Tryd.ntmps103
  go_wp2_with fail
  refine (width_any _ _).mono ?_
  rintro e w' ⟨rfl, rfl⟩
  rcases hw with ⟨h1, h2⟩ | ⟨h1, h2⟩ | ⟨h1, h2⟩
  all_goals
    rw [h1]; subst h2; clear h1
    go_wp2
    go_ret
    exact ⟨rfl, rfl⟩

theorem clsOf_step (size : Int) (k : Nat) (hk : k ≤ 2) (hs : size ≤ 32) : (Ti.width k < size → (k : Int) < Ti.clsOf size) ∧ (size ≤ Ti.width k → Ti.clsOf size ≤ k) := by
  have : k = 0 ∨ k = 1 ∨ k = 2 := by omega
  unfold Ti.width Ti.clsOf
  rcases this with rfl | rfl | rfl <;> simp <;> omega

set_option maxHeartbeats 400000 in
theorem class_any (size : Int) (w : World) (hs : size ≤ 32) :
    Calls Tryd.prog 86 #[.int .i64 size] w fun e w' => e = .returned (.int .i64 (Ti.clsOf size)) ∧ w = w' := by
  have hc : 0 ≤ Ti.clsOf size ∧ Ti.clsOf size ≤ 2 := by unfold Ti.clsOf; split <;> (try split) <;> omega
  go_enter Tryd.func86, Tryd.ntmps86
  go_wp2
  go_loop [3] (fun i => ∃ k : Nat, (k : Int) ≤ Ti.clsOf size ∧ i = .int .i64 k) (fun i => 2 - (intOf i).toNat)
  case atStart => exact ⟨0, by omega, rfl⟩
  case round =>
    obtain ⟨k, hk, rfl⟩ := hrel
    have hst := clsOf_step size k (by omega) hs
    go_wp2_with fail
    refine (width_any _ _).mono ?_
    rintro e w' ⟨rfl, rfl⟩
    by_cases hlt : Ti.width k < size
    · have := hst.1 hlt
      go_wp2
      go_round
      case rel => exact ⟨k + 1, by omega, by go_num⟩
      case measure => simp [intOf]; omega
    · have h3 := hst.2 (by omega)
      have h4 : Ti.clsOf size = k := by omega
      go_wp2
      go_ret
      exact ⟨by rw [h4]; rfl, rfl⟩

theorem atTo_skip (bs : List (Int × Int)) (a : Int) (k : Nat) (h : ∀ j, j < k → (Ti.bk bs j).1 ≠ a) : Ti.atTo bs a k = -1 := by
  induction k with
  | zero => rfl
  | succ k ih => simp [Ti.atTo, ih (fun j hj => h j (by omega)), h k (by omega)]
theorem atTo_hit (bs : List (Int × Int)) (a : Int) (k n : Nat) (h : ∀ j, j < k → (Ti.bk bs j).1 ≠ a) (hk : (Ti.bk bs k).1 = a) (hn : k < n) : Ti.atTo bs a n = k := by
  induction n with
  | zero => omega
  | succ n ih =>
    by_cases hkn : k = n
    · subst hkn; simp [Ti.atTo, atTo_skip bs a k h, hk]
    · simp [Ti.atTo, ih (by omega)]

set_option maxHeartbeats 400000 in
theorem at_any (w : World) (r bf bz cap : Nat) (p : Option Addr) (S : Ti.St) (a : Int) (hR : RefAt w r bf bz p cap S) (hB : Bd S) :
    Calls Tryd.prog 88 #[.pointer (some ⟨r, 0, none⟩), .int .i64 a] w fun e w' => e = .returned (.int .i64 (Ti.atI S.blocks a)) ∧ w = w' := by
  have hr : w.cell? ⟨r, 4, none⟩ = some (.slice p S.blocks.length cap) := by rw [cell_of hR.hd]; rfl
  have hl := hB.b1024
  have hbl := hR.blocks
  unfold Ti.atI
  generalize S.blocks = bs at *
  go_enter Tryd.func88, Tryd.ntmps88
  go_wp2
  go_loop [5] (fun i => ∃ k : Nat, k ≤ bs.length ∧ i = .int .i64 k ∧ ∀ j, j < k → (Ti.bk bs j).1 ≠ a) (fun i => bs.length - (intOf i).toNat)
  case atStart => exact ⟨0, Nat.zero_le _, rfl, fun j hj => by omega⟩
  case round =>
    obtain ⟨k, hk, rfl, hno⟩ := hrel
    have HN := Hid.out (p := _) hno
    by_cases hlt : k < bs.length
    · obtain ⟨bb, c, f, rfl, h1, h2, h3⟩ := hbl k hlt
      have hc := cell_of h1 (k * 2)
      rw [h2] at hc
      clear h1 h2 h3 hbl
      have Hno : Hid (∀ j, j < k → (Ti.bk bs j).1 ≠ a) := hno
      clear hno HN
      by_cases hx : (Ti.bk bs k).1 = a
      · have hb : ((Ti.bk bs k).1 == a) = true := beq_iff_eq.2 hx
        have hfin : Hid (Ti.atTo bs a bs.length = k) := atTo_hit bs a k _ Hno.out hx hlt
        clear hx
        go_wp2
        go_ret
        exact ⟨by rw [hfin.out]; rfl, rfl⟩
      · have hb : ((Ti.bk bs k).1 == a) = false := beq_eq_false_iff_ne.2 hx
        have Hx : Hid ((Ti.bk bs k).1 ≠ a) := hx
        clear hx
        go_wp2
        go_round
        case rel => exact ⟨k + 1, by omega, by go_num, fun j hj => by
          by_cases h : j = k
          · rw [h]; exact Hx.out
          · exact Hno.out j (by omega)⟩
        case measure => simp [intOf]; omega
    · have hfin : Hid (Ti.atTo bs a bs.length = -1) := atTo_skip bs a _ (fun j hj => hno j (by omega))
      clear hno HN hbl
      go_wp2
      go_ret
      exact ⟨by rw [hfin.out]; rfl, rfl⟩

set_option maxHeartbeats 400000 in
theorem used_any (w : World) (r bf bz cap : Nat) (p : Option Addr) (S : Ti.St) (f : Int) (hR : RefAt w r bf bz p cap S) (hB : Bd S) :
    Calls Tryd.prog 91 #[.pointer (some ⟨r, 0, none⟩), .int .i64 f] w fun e w' => e = .returned (.int .i64 (Ti.usedN S.blocks f : Nat)) ∧ w = w' := by
  have hr : w.cell? ⟨r, 4, none⟩ = some (.slice p S.blocks.length cap) := by rw [cell_of hR.hd]; rfl
  have hl := hB.b1024
  have hbl := hR.blocks
  have hat := hB.at0
  unfold Ti.usedN
  generalize S.blocks = bs at *
  go_enter Tryd.func91, Tryd.ntmps91
  go_wp2
  go_loop [5, 6] (fun n i => ∃ k : Nat, k ≤ bs.length ∧ i = .int .i64 k ∧ n = .int .i64 (Ti.usedTo bs f k : Nat)) (fun _ i => bs.length - (intOf i).toNat)
  case atStart => exact ⟨0, Nat.zero_le _, rfl, rfl⟩
  case round =>
    obtain ⟨k, hk, rfl, rfl⟩ := hrel
    have hu := usedTo_le bs f k
    by_cases hlt : k < bs.length
    · obtain ⟨bb, c, f', rfl, h1, h2, h3⟩ := hbl k hlt
      have hc := cell_of h1 (k * 2)
      rw [h2] at hc
      obtain ⟨h0, h0u, _, _⟩ := hat k hlt
      clear h1 h2 h3 hbl hat
      by_cases hx : (Ti.bk bs k).1 / 64 = f
      · have hb : ((Ti.bk bs k).1 / 64 == f) = true := beq_iff_eq.2 hx
        have hfin : Hid (Ti.usedTo bs f (k + 1) = Ti.usedTo bs f k + 1) := by show _ = _; simp [Ti.usedTo, hx]
        clear hx
        go_wp2
        go_round
        case rel => exact ⟨k + 1, by omega, by go_num, by rw [hfin.out]; go_num⟩
        case measure => simp [intOf]; omega
      · have hb : ((Ti.bk bs k).1 / 64 == f) = false := beq_eq_false_iff_ne.2 hx
        have hfin : Hid (Ti.usedTo bs f (k + 1) = Ti.usedTo bs f k) := by show _ = _; simp [Ti.usedTo, hx]
        clear hx
        go_wp2
        go_round
        case rel => exact ⟨k + 1, by omega, by go_num, by rw [hfin.out]⟩
        case measure => simp [intOf]; omega
    · have e : k = bs.length := by omega
      subst e
      clear hbl hat
      go_wp2
      go_ret
      exact ⟨rfl, rfl⟩
end Go.Proofs.YtbagfepdmmfegaaDoor

namespace Go.Proofs.YtbagfepdmmfegaaDoor
open Go.RowKit

theorem RefAt.c1 {w : World} {r bf bz cap : Nat} {p : Option Addr} {S : Ti.St} (h : RefAt w r bf bz p cap S) : w.cell? ⟨r, 3, none⟩ = some (.slice (some ⟨bf, 0, none⟩) S.sups.length S.sups.length) := by
  rw [cell_of h.hd]; rfl
theorem RefAt.c2 {w : World} {r bf bz cap : Nat} {p : Option Addr} {S : Ti.St} (h : RefAt w r bf bz p cap S) : w.cell? ⟨r, 4, none⟩ = some (.slice p S.blocks.length cap) := by
  rw [cell_of h.hd]; rfl
theorem RefAt.c3 {w : World} {r bf bz cap : Nat} {p : Option Addr} {S : Ti.St} (h : RefAt w r bf bz p cap S) : w.cell? ⟨r, 5, none⟩ = some (.slice (some ⟨bz, 0, none⟩) S.bytes.length S.bytes.length) := by
  rw [cell_of h.hd]; rfl
theorem RefAt.sc {w : World} {r bf bz cap : Nat} {p : Option Addr} {S : Ti.St} (h : RefAt w r bf bz p cap S) (k : Nat) (hk : k < S.sups.length) :
    w.cell? ⟨bf, k * 3, none⟩ = some (.bool (S.sup k).is) ∧ w.cell? ⟨bf, k * 3 + 1, none⟩ = some (.int .i64 (S.sup k).cls) ∧ w.cell? ⟨bf, k * 3 + 2, none⟩ = some (.int .i64 (S.sup k).heap) := by
  obtain ⟨c, h1, _, h3⟩ := h.sups
  obtain ⟨a, b, d⟩ := h3 k hk
  exact ⟨by rw [cell_of h1]; exact a, by rw [cell_of h1]; exact b, by rw [cell_of h1]; exact d⟩
theorem RefAt.bc {w : World} {r bf bz cap : Nat} {p : Option Addr} {S : Ti.St} (h : RefAt w r bf bz p cap S) (k : Nat) (hk : k < S.blocks.length) :
    ∃ bb, p = some ⟨bb, 0, none⟩ ∧ w.cell? ⟨bb, k * 2, none⟩ = some (.int .i64 (Ti.bk S.blocks k).1) ∧ w.cell? ⟨bb, k * 2 + 1, none⟩ = some (.int .i64 (Ti.bk S.blocks k).2) := by
  obtain ⟨bb, c, f, h1, h2, h3, h4⟩ := h.blocks k hk
  exact ⟨bb, h1, by rw [cell_of h2]; exact h3, by rw [cell_of h2]; exact h4⟩

theorem used_le (S : Ti.St) (hB : Bd S) (f : Int) : (Ti.usedN S.blocks f : Int) ≤ 1024 := by
  have := usedTo_le S.blocks f S.blocks.length
  have := hB.b1024
  unfold Ti.usedN; omega

set_option maxHeartbeats 1000000 in
theorem fullest_any (w : World) (r bf bz cap : Nat) (p : Option Addr) (S : Ti.St) (h c : Int) (hR : RefAt w r bf bz p cap S) (hB : Bd S) :
    Calls Tryd.prog 87 #[.pointer (some ⟨r, 0, none⟩), .int .i64 h, .int .i64 c] w fun e w' => e = .returned (.int .i64 (S.fullest h c)) ∧ Ext none1 w w' := by
  have hl := hB.f16
  go_enter Tryd.func87, Tryd.ntmps87
  go_wp2
  go_loopw [7, 8, 9] (fun b m i wr => ∃ k : Nat, k ≤ S.sups.length ∧ i = .int .i64 k ∧ b = .int .i64 (S.fullTo h c k).1 ∧ m = .int .i64 (S.fullTo h c k).2 ∧ Ext none1 w wr) (fun _ _ i _ => S.sups.length - (intOf i).toNat)
  case atStart => exact ⟨0, Nat.zero_le _, rfl, rfl, rfl, Ext.refl _ _⟩
  case round =>
    obtain ⟨k, hk, rfl, rfl, rfl, hE⟩ := hrel
    have hRr := hR.keep0 hE
    have hr := hRr.c1
    by_cases hlt : k < S.sups.length
    · obtain ⟨q1, q2, q3⟩ := hRr.sc k hlt
      go_wp2_with fail
      refine (used_any _ r bf bz cap p S k (hRr.keep0 ((Ext.refl _ _).alloc _)) hB).mono ?_
      rintro e w' ⟨rfl, rfl⟩
      have hst : Hid (S.fullTo h c (k + 1) = if S.mine h c k = true ∧ (S.used k : Int) < Ti.slots c ∧ (S.fullTo h c k).2 < (S.used k : Int) then ((k : Int), (S.used k : Int)) else S.fullTo h c k) := rfl
      have hub := used_le S hB k
      have hmine : Hid (S.mine h c k = ((S.sup k).is && (S.sup k).heap == h && (S.sup k).cls == c)) := rfl
      have hus : S.used k = Ti.usedN S.blocks k := rfl
      rw [← hus] at hub ⊢
      clear hus
      generalize S.used k = u at *
      generalize S.fullTo h c k = t at *
      obtain ⟨t1, t2⟩ := t
      dsimp only at *
      generalize S.sup k = sp at *
      obtain ⟨is, cl, hp⟩ := sp
      dsimp only at *
      cases is
      · have hst' : Hid (S.fullTo h c (k + 1) = (t1, t2)) := by show _ = _; rw [hst.out, if_neg (by rw [hmine.out]; simp)]
        clear hst hmine
        go_wp2
        go_roundw
        case rel => exact ⟨k + 1, by omega, by go_num, by rw [hst'.out], by rw [hst'.out], hE.alloc _⟩
        case measure => simp [intOf]; omega
      · have hng : ∀ (hx : ¬ (hp = h ∧ cl = c ∧ (u : Int) < Ti.slots c ∧ t2 < (u : Int))), Hid (S.fullTo h c (k + 1) = (t1, t2)) := by
          intro hx
          show _ = _
          rw [hst.out, if_neg]
          rw [hmine.out]
          rintro ⟨m, a3, a4⟩
          simp at m
          exact hx ⟨m.1, m.2, a3, a4⟩
        by_cases e1 : hp = h
        · have b1 : (hp == h) = true := beq_iff_eq.2 e1
          by_cases e2 : cl = c
          · have b2 : (cl == c) = true := beq_iff_eq.2 e2
            by_cases e3 : (u : Int) < Ti.slots c
            · by_cases e4 : t2 < (u : Int)
              · have hst' : Hid (S.fullTo h c (k + 1) = ((k : Int), (u : Int))) := by
                  show _ = _
                  rw [hst.out, if_pos]
                  rw [hmine.out]
                  simp [e1, e2, e3, e4]
                clear hst hmine hng e1 e2
                go_wp2_with (go_at_call 103; refine (slots_any _ _).mono ?_; rintro e w' ⟨rfl, rfl⟩)
                go_roundw
                case rel => exact ⟨k + 1, by omega, by go_num, by rw [hst'.out], by rw [hst'.out], hE.alloc _⟩
                case measure => simp [intOf]; omega
              · have hst' := hng (fun x => e4 x.2.2.2)
                clear hst hmine hng e1 e2
                go_wp2_with (go_at_call 103; refine (slots_any _ _).mono ?_; rintro e w' ⟨rfl, rfl⟩)
                go_roundw
                case rel => exact ⟨k + 1, by omega, by go_num, by rw [hst'.out], by rw [hst'.out], hE.alloc _⟩
                case measure => simp [intOf]; omega
            · have hst' := hng (fun x => e3 x.2.2.1)
              clear hst hmine hng e1 e2
              go_wp2_with (go_at_call 103; refine (slots_any _ _).mono ?_; rintro e w' ⟨rfl, rfl⟩)
              go_roundw
              case rel => exact ⟨k + 1, by omega, by go_num, by rw [hst'.out], by rw [hst'.out], hE.alloc _⟩
              case measure => simp [intOf]; omega
          · have b2 : (cl == c) = false := beq_eq_false_iff_ne.2 e2
            have hst' := hng (fun x => e2 x.2.1)
            clear hst hmine hng e1 e2
            go_wp2
            go_roundw
            case rel => exact ⟨k + 1, by omega, by go_num, by rw [hst'.out], by rw [hst'.out], hE.alloc _⟩
            case measure => simp [intOf]; omega
        · have b1 : (hp == h) = false := beq_eq_false_iff_ne.2 e1
          have hst' := hng (fun x => e1 x.1)
          clear hst hmine hng e1
          go_wp2
          go_roundw
          case rel => exact ⟨k + 1, by omega, by go_num, by rw [hst'.out], by rw [hst'.out], hE.alloc _⟩
          case measure => simp [intOf]; omega
    · have e : k = S.sups.length := by omega
      subst e
      go_wp2
      go_ret
      exact ⟨rfl, hE⟩

set_option maxHeartbeats 1000000 in
theorem emptiest_any (w : World) (r bf bz cap : Nat) (p : Option Addr) (S : Ti.St) (h c : Int) (hR : RefAt w r bf bz p cap S) (hB : Bd S) :
    Calls Tryd.prog 90 #[.pointer (some ⟨r, 0, none⟩), .int .i64 h, .int .i64 c] w fun e w' => e = .returned (.int .i64 (S.emptiest h c)) ∧ Ext none1 w w' := by
  have hl := hB.f16
  go_enter Tryd.func90, Tryd.ntmps90
  go_wp2
  go_loopw [7, 8, 9] (fun b m i wr => ∃ k : Nat, k ≤ S.sups.length ∧ i = .int .i64 k ∧ b = .int .i64 (S.emptyTo h c k).1 ∧ m = .int .i64 (S.emptyTo h c k).2 ∧ Ext none1 w wr) (fun _ _ i _ => S.sups.length - (intOf i).toNat)
  case atStart => exact ⟨0, Nat.zero_le _, rfl, rfl, rfl, Ext.refl _ _⟩
  case round =>
    obtain ⟨k, hk, rfl, rfl, rfl, hE⟩ := hrel
    have hRr := hR.keep0 hE
    have hr := hRr.c1
    by_cases hlt : k < S.sups.length
    · obtain ⟨q1, q2, q3⟩ := hRr.sc k hlt
      go_wp2_with fail
      refine (used_any _ r bf bz cap p S k (hRr.keep0 ((Ext.refl _ _).alloc _)) hB).mono ?_
      rintro e w' ⟨rfl, rfl⟩
      have hst : Hid (S.emptyTo h c (k + 1) = if S.mine h c k = true ∧ (S.used k : Int) < (S.emptyTo h c k).2 then ((k : Int), (S.used k : Int)) else S.emptyTo h c k) := rfl
      have hub := used_le S hB k
      have hmine : Hid (S.mine h c k = ((S.sup k).is && (S.sup k).heap == h && (S.sup k).cls == c)) := rfl
      have hus : S.used k = Ti.usedN S.blocks k := rfl
      rw [← hus] at hub ⊢
      clear hus
      generalize S.used k = u at *
      generalize S.emptyTo h c k = t at *
      obtain ⟨t1, t2⟩ := t
      dsimp only at *
      generalize S.sup k = sp at *
      obtain ⟨is, cl, hp⟩ := sp
      dsimp only at *
      cases is
      · have hst' : Hid (S.emptyTo h c (k + 1) = (t1, t2)) := by show _ = _; rw [hst.out, if_neg (by rw [hmine.out]; simp)]
        clear hst hmine
        go_wp2
        go_roundw
        case rel => exact ⟨k + 1, by omega, by go_num, by rw [hst'.out], by rw [hst'.out], hE.alloc _⟩
        case measure => simp [intOf]; omega
      · have hng : ∀ (hx : ¬ (hp = h ∧ cl = c ∧ (u : Int) < t2)), Hid (S.emptyTo h c (k + 1) = (t1, t2)) := by
          intro hx
          show _ = _
          rw [hst.out, if_neg]
          rw [hmine.out]
          rintro ⟨m, a3⟩
          simp at m
          exact hx ⟨m.1, m.2, a3⟩
        by_cases e1 : hp = h
        · have b1 : (hp == h) = true := beq_iff_eq.2 e1
          by_cases e2 : cl = c
          · have b2 : (cl == c) = true := beq_iff_eq.2 e2
            by_cases e4 : (u : Int) < t2
            · have hst' : Hid (S.emptyTo h c (k + 1) = ((k : Int), (u : Int))) := by
                show _ = _
                rw [hst.out, if_pos]
                rw [hmine.out]
                simp [e1, e2, e4]
              clear hst hmine hng e1 e2
              go_wp2
              go_roundw
              case rel => exact ⟨k + 1, by omega, by go_num, by rw [hst'.out], by rw [hst'.out], hE.alloc _⟩
              case measure => simp [intOf]; omega
            · have hst' := hng (fun x => e4 x.2.2)
              clear hst hmine hng e1 e2
              go_wp2
              go_roundw
              case rel => exact ⟨k + 1, by omega, by go_num, by rw [hst'.out], by rw [hst'.out], hE.alloc _⟩
              case measure => simp [intOf]; omega
          · have b2 : (cl == c) = false := beq_eq_false_iff_ne.2 e2
            have hst' := hng (fun x => e2 x.2.1)
            clear hst hmine hng e1 e2
            go_wp2
            go_roundw
            case rel => exact ⟨k + 1, by omega, by go_num, by rw [hst'.out], by rw [hst'.out], hE.alloc _⟩
            case measure => simp [intOf]; omega
        · have b1 : (hp == h) = false := beq_eq_false_iff_ne.2 e1
          have hst' := hng (fun x => e1 x.1)
          clear hst hmine hng e1
          go_wp2
          go_roundw
          case rel => exact ⟨k + 1, by omega, by go_num, by rw [hst'.out], by rw [hst'.out], hE.alloc _⟩
          case measure => simp [intOf]; omega
    · have e : k = S.sups.length := by omega
      subst e
      go_wp2
      go_ret
      exact ⟨rfl, hE⟩
end Go.Proofs.YtbagfepdmmfegaaDoor

namespace Go.Proofs.YtbagfepdmmfegaaDoor
open Go.RowKit

theorem coverTo_of (bs : List (Int × Int)) (f : Int) (k n : Nat) (hk : k < n) (h : Ti.covers (Ti.bk bs k) f = true) : Ti.coverTo bs f n = true := by
  induction n with
  | zero => omega
  | succ n ih =>
    by_cases e : k = n
    · subst e; simp [Ti.coverTo, h]
    · simp [Ti.coverTo, ih (by omega)]

set_option maxHeartbeats 1000000 in
theorem free_any (w : World) (r bf bz cap : Nat) (p : Option Addr) (S : Ti.St) (f : Nat) (hR : RefAt w r bf bz p cap S) (hB : Bd S) (hf : f < S.sups.length) :
    Calls Tryd.prog 93 #[.pointer (some ⟨r, 0, none⟩), .int .i64 f] w fun e w' => e = .returned (.bool (S.free f)) ∧ Ext none1 w w' := by
  have hl := hB.f16
  have hl2 := hB.b1024
  have hr := hR.c1
  obtain ⟨q1, q2, q3⟩ := hR.sc f hf
  unfold Ti.St.free
  generalize S.sup f = sp at *
  obtain ⟨is, cl, hp⟩ := sp
  dsimp only at *
  cases is
  · go_enter Tryd.func93, Tryd.ntmps93
    go_wp2
    go_loopw [5] (fun i wr => ∃ k : Nat, k ≤ S.blocks.length ∧ i = .int .i64 k ∧ Ti.coverTo S.blocks f k = false ∧ Ext none1 w wr) (fun i _ => S.blocks.length - (intOf i).toNat)
    case atStart => exact ⟨0, Nat.zero_le _, rfl, rfl, Ext.refl _ _⟩
    case round =>
      obtain ⟨k, hk, rfl, hno, hE⟩ := hrel
      have Hno : Hid (Ti.coverTo S.blocks f k = false) := hno
      clear hno
      have hRr := hR.keep0 hE
      clear hr q1 q2 q3
      have hr := hRr.c2
      by_cases hlt : k < S.blocks.length
      · obtain ⟨bb, rfl, q1, q2⟩ := hRr.bc k hlt
        obtain ⟨z1, z2, z3, z4⟩ := hB.at0 k hlt
        have hcov : Hid (Ti.covers (Ti.bk S.blocks k) f = (decide (32 < (Ti.bk S.blocks k).2) && decide ((Ti.bk S.blocks k).1 ≤ 64 * f) && decide (64 * f < (Ti.bk S.blocks k).1 + (Ti.bk S.blocks k).2))) := rfl
        have hall : Hid (Ti.covers (Ti.bk S.blocks k) f = true → Ti.coverTo S.blocks f S.blocks.length = true) := coverTo_of _ _ k _ hlt
        have hst : Hid (Ti.covers (Ti.bk S.blocks k) f = false → Ti.coverTo S.blocks f (k + 1) = false) := by intro h; simp [Ti.coverTo, h, Hno.out]
        generalize hb : Ti.bk S.blocks k = b at *
        clear hb
        obtain ⟨b1, b2⟩ := b
        dsimp only at *
        by_cases e1 : 32 < b2
        · by_cases e2 : b1 ≤ 64 * f
          · by_cases e3 : 64 * (f : Int) < b1 + b2
            · have hfin := hall.out (by rw [hcov.out]; simp [e1, e2, e3])
              have Hfin : Hid (Ti.coverTo S.blocks f S.blocks.length = true) := hfin
              clear hfin hcov hall hst
              go_wp2
              go_ret
              exact ⟨by rw [Hfin.out]; rfl, hE.alloc _⟩
            · have hfin : Hid (Ti.coverTo S.blocks f (k + 1) = false) := hst.out (by rw [hcov.out]; simp [e1, e2, e3])
              clear hcov hall hst
              go_wp2
              go_roundw
              case rel => exact ⟨k + 1, by omega, by go_num, hfin.out, hE.alloc _⟩
              case measure => simp [intOf]; omega
          · have hfin : Hid (Ti.coverTo S.blocks f (k + 1) = false) := hst.out (by rw [hcov.out]; simp [e1, e2])
            clear hcov hall hst
            go_wp2
            go_roundw
            case rel => exact ⟨k + 1, by omega, by go_num, hfin.out, hE.alloc _⟩
            case measure => simp [intOf]; omega
        · have hfin : Hid (Ti.coverTo S.blocks f (k + 1) = false) := hst.out (by rw [hcov.out]; simp [e1])
          clear hcov hall hst
          go_wp2
          go_roundw
          case rel => exact ⟨k + 1, by omega, by go_num, hfin.out, hE.alloc _⟩
          case measure => simp [intOf]; omega
      · have e : k = S.blocks.length := by omega
        subst e
        go_wp2
        go_ret
        exact ⟨by rw [Hno.out]; rfl, hE⟩
  · go_enter Tryd.func93, Tryd.ntmps93
    go_wp2
    go_ret
    exact ⟨rfl, Ext.refl _ _⟩

theorem byteTo_of (bs : List (Int × Int)) (f : Int) (k n : Nat) (hk : k < n) (h : Ti.hasB (Ti.bk bs k) f = true) : Ti.byteTo bs f n = true := by
  induction n with
  | zero => omega
  | succ n ih =>
    by_cases e : k = n
    · subst e; simp [Ti.byteTo, h]
    · simp [Ti.byteTo, ih (by omega)]

set_option maxHeartbeats 1000000 in
theorem byte1_any (w : World) (r bf bz cap : Nat) (p : Option Addr) (S : Ti.St) (f : Int) (hR : RefAt w r bf bz p cap S) (hB : Bd S) :
    Calls Tryd.prog 92 #[.pointer (some ⟨r, 0, none⟩), .int .i64 f] w fun e w' => e = .returned (.bool (S.byte1 f)) ∧ Ext none1 w w' := by
  have hl := hB.f16
  have hl2 := hB.b1024
  unfold Ti.St.byte1
  go_enter Tryd.func92, Tryd.ntmps92
  go_wp2
  go_loopw [5] (fun i wr => ∃ k : Nat, k ≤ S.blocks.length ∧ i = .int .i64 k ∧ Ti.byteTo S.blocks f k = false ∧ Ext none1 w wr) (fun i _ => S.blocks.length - (intOf i).toNat)
  case atStart => exact ⟨0, Nat.zero_le _, rfl, rfl, Ext.refl _ _⟩
  case round =>
    obtain ⟨k, hk, rfl, hno, hE⟩ := hrel
    have Hno : Hid (Ti.byteTo S.blocks f k = false) := hno
    clear hno
    have hRr := hR.keep0 hE
    have hr := hRr.c2
    by_cases hlt : k < S.blocks.length
    · obtain ⟨bb, rfl, q1, q2⟩ := hRr.bc k hlt
      obtain ⟨z1, z2, z3, z4⟩ := hB.at0 k hlt
      have hcov : Hid (Ti.hasB (Ti.bk S.blocks k) f = (decide ((Ti.bk S.blocks k).1 ≤ f) && decide (f < (Ti.bk S.blocks k).1 + (Ti.bk S.blocks k).2))) := rfl
      have hall : Hid (Ti.hasB (Ti.bk S.blocks k) f = true → Ti.byteTo S.blocks f S.blocks.length = true) := byteTo_of _ _ k _ hlt
      have hst : Hid (Ti.hasB (Ti.bk S.blocks k) f = false → Ti.byteTo S.blocks f (k + 1) = false) := by intro h; simp [Ti.byteTo, h, Hno.out]
      generalize hb : Ti.bk S.blocks k = b at *
      clear hb
      obtain ⟨b1, b2⟩ := b
      dsimp only at *
      by_cases e2 : b1 ≤ f
      · by_cases e3 : f < b1 + b2
        · have Hfin : Hid (Ti.byteTo S.blocks f S.blocks.length = true) := hall.out (by rw [hcov.out]; simp [e2, e3])
          clear hcov hall hst
          go_wp2
          go_ret
          exact ⟨by rw [Hfin.out]; rfl, hE.alloc _⟩
        · have hfin : Hid (Ti.byteTo S.blocks f (k + 1) = false) := hst.out (by rw [hcov.out]; simp [e2, e3])
          clear hcov hall hst
          go_wp2
          go_roundw
          case rel => exact ⟨k + 1, by omega, by go_num, hfin.out, hE.alloc _⟩
          case measure => simp [intOf]; omega
      · have hfin : Hid (Ti.byteTo S.blocks f (k + 1) = false) := hst.out (by rw [hcov.out]; simp [e2])
        clear hcov hall hst
        go_wp2
        go_roundw
        case rel => exact ⟨k + 1, by omega, by go_num, hfin.out, hE.alloc _⟩
        case measure => simp [intOf]; omega
    · have e : k = S.blocks.length := by omega
      subst e
      go_wp2
      go_ret
      exact ⟨by rw [Hno.out]; rfl, hE⟩

theorem frees_le (S : Ti.St) (k : Nat) : S.frees k ≤ k := by
  induction k with
  | zero => simp [Ti.St.frees]
  | succ k ih => simp only [Ti.St.frees]; split <;> omega

set_option maxHeartbeats 1000000 in
theorem freeFrames_any (w : World) (r bf bz cap : Nat) (p : Option Addr) (S : Ti.St) (hR : RefAt w r bf bz p cap S) (hB : Bd S) :
    Calls Tryd.prog 71 #[.pointer (some ⟨r, 0, none⟩)] w fun e w' => e = .returned (.int .i64 (S.freeFrames : Nat)) ∧ Ext none1 w w' := by
  have hl := hB.f16
  unfold Ti.St.freeFrames
  go_enter Tryd.func71, Tryd.ntmps71
  go_wp2
  go_loopw [3, 4] (fun n i wr => ∃ k : Nat, k ≤ S.sups.length ∧ i = .int .i64 k ∧ n = .int .i64 (S.frees k : Nat) ∧ Ext none1 w wr) (fun _ i _ => S.sups.length - (intOf i).toNat)
  case atStart => exact ⟨0, Nat.zero_le _, rfl, rfl, Ext.refl _ _⟩
  case round =>
    obtain ⟨k, hk, rfl, rfl, hE⟩ := hrel
    have hRr := hR.keep0 hE
    have hr := hRr.c1
    have hle := frees_le S k
    by_cases hlt : k < S.sups.length
    · go_wp2_with fail
      refine (free_any _ r bf bz cap p S k hRr hB hlt).mono ?_
      rintro e w' ⟨rfl, hE2⟩
      have hst : Hid (S.frees (k + 1) = if S.free k = true then S.frees k + 1 else S.frees k) := rfl
      cases hfr : S.free k
      · have hst' : Hid (S.frees (k + 1) = S.frees k) := by show _ = _; rw [hst.out, hfr]; rfl
        clear hst hfr
        go_wp2
        go_roundw
        case rel => exact ⟨k + 1, by omega, by go_num, by rw [hst'.out], hE.trans hE2⟩
        case measure => simp [intOf]; omega
      · have hst' : Hid (S.frees (k + 1) = S.frees k + 1) := by show _ = _; rw [hst.out, hfr]; rfl
        clear hst hfr
        go_wp2
        go_roundw
        case rel => exact ⟨k + 1, by omega, by go_num, by rw [hst'.out]; go_num, hE.trans hE2⟩
        case measure => simp [intOf]; omega
    · have e : k = S.sups.length := by omega
      subst e
      go_wp2
      go_ret
      exact ⟨rfl, hE⟩
end Go.Proofs.YtbagfepdmmfegaaDoor

namespace Go.Proofs.YtbagfepdmmfegaaDoor
open Go.RowKit

theorem runTo_skip (S : Ti.St) (n k : Nat) (h : ∀ j, j < k → S.allFree j n = false) : S.runTo n k = -1 := by
  induction k with
  | zero => rfl
  | succ k ih => simp [Ti.St.runTo, ih (fun j hj => h j (by omega)), h k (by omega)]
theorem runTo_hit (S : Ti.St) (n k m : Nat) (h : ∀ j, j < k → S.allFree j n = false) (hk : S.allFree k n = true) (hm : k < m) : S.runTo n m = k := by
  induction m with
  | zero => omega
  | succ m ih =>
    by_cases e : k = m
    · subst e; simp [Ti.St.runTo, runTo_skip S n k h, hk]
    · simp [Ti.St.runTo, ih (by omega)]

set_option maxHeartbeats 1000000 in
theorem run_any (w : World) (r bf bz cap : Nat) (p : Option Addr) (S : Ti.St) (n : Nat) (hR : RefAt w r bf bz p cap S) (hB : Bd S) (hn : 1 ≤ n) (hn4 : n ≤ 4) :
    Calls Tryd.prog 84 #[.pointer (some ⟨r, 0, none⟩), .int .i64 n] w fun e w' => e = .returned (.int .i64 (S.run n)) ∧ Ext none1 w w' := by
  have hl := hB.f16
  unfold Ti.St.run
  go_enter Tryd.func84, Tryd.ntmps84
  go_wp2
  go_loopw [5] (fun i wr => ∃ k : Nat, k ≤ S.sups.length + 1 - n ∧ i = .int .i64 k ∧ (∀ j, j < k → S.allFree j n = false) ∧ Ext none1 w wr) (fun i _ => S.sups.length + 1 - (intOf i).toNat)
  case atStart => exact ⟨0, Nat.zero_le _, rfl, fun j hj => by omega, Ext.refl _ _⟩
  case round =>
    obtain ⟨k, hk, rfl, hno, hE⟩ := hrel
    have Hno : Hid (∀ j, j < k → S.allFree j n = false) := hno
    clear hno
    have hRr := hR.keep0 hE
    have hr := hRr.c1
    rename World => wo
    by_cases hlt : k + n ≤ S.sups.length
    · have hd : decide ((k : Int) + (n : Int) ≤ (S.sups.length : Int)) = true := decide_eq_true (by omega)
      go_wp2
      go_loopw [6, 7] (fun a i wr2 => ∃ j : Nat, j ≤ n ∧ i = .int .i64 j ∧ a = .bool (S.allFree k j) ∧ Ext none1 wo wr2) (fun _ i _ => n - (intOf i).toNat)
      case atStart => exact ⟨0, Nat.zero_le _, rfl, rfl, Ext.refl _ _⟩
      case round =>
        obtain ⟨j, hj, rfl, rfl, hE2⟩ := hrel
        have hR2 := hRr.keep0 hE2
        have hst : Hid (S.allFree k (j + 1) = (S.allFree k j && S.free (k + j))) := rfl
        by_cases hjn : j < n
        · go_wp2_with fail
          have ec : (k : Int) + (j : Int) = ((k + j : Nat) : Int) := by omega
          rw [ec]
          refine (free_any _ r bf bz cap p S (k + j) hR2 hB (by omega)).mono ?_
          rintro e w' ⟨rfl, hE3⟩
          clear ec
          cases ha : S.allFree k j
          · have hst' : Hid (S.allFree k (j + 1) = false) := by show _ = _; rw [hst.out, ha]; rfl
            clear hst ha
            go_wp2
            go_roundw
            case rel => first | exact ⟨j + 1, by omega, by go_num, by rw [hst'.out], hE2.trans hE3⟩ | ((repeat apply Exists.intro); exact ⟨⟨j + 1, by omega, by go_num, by rw [hst'.out], hE2.trans hE3⟩, rfl⟩)
            case measure => simp [intOf]; omega
          · have hst' : Hid (S.allFree k (j + 1) = S.free (k + j)) := by show _ = _; rw [hst.out, ha]; rfl
            clear hst ha
            go_wp2
            go_roundw
            case rel => first | exact ⟨j + 1, by omega, by go_num, by rw [hst'.out], hE2.trans hE3⟩ | ((repeat apply Exists.intro); exact ⟨⟨j + 1, by omega, by go_num, by rw [hst'.out], hE2.trans hE3⟩, rfl⟩)
            case measure => simp [intOf]; omega
        · have e : j = n := by omega
          subst e
          cases ha : S.allFree k j
          · have Ha : Hid (S.allFree k j = false) := ha
            clear ha hst
            go_wp2
            go_roundw
            case rel => exact ⟨k + 1, by omega, by go_num, fun i hi => by
              by_cases h : i = k
              · rw [h]; exact Ha.out
              · exact Hno.out i (by omega), hE.trans hE2⟩
            case measure => simp [intOf]; omega
          · have Hfin : Hid (S.runTo j (S.sups.length + 1 - j) = k) := runTo_hit S j k _ Hno.out ha (by omega)
            clear ha hst
            go_wp2
            go_ret
            exact ⟨by rw [Hfin.out]; rfl, hE.trans hE2⟩
    · have Hfin : Hid (S.runTo n (S.sups.length + 1 - n) = -1) := runTo_skip S n _ (fun j hj => Hno.out j (by omega))
      go_wp2
      go_ret
      exact ⟨by rw [Hfin.out]; rfl, hE⟩

theorem byte1_at (S : Ti.St) (a : Int) (h : S.byte1 a = true) : ∃ k, k < S.blocks.length ∧ (Ti.bk S.blocks k).1 ≤ a ∧ a < (Ti.bk S.blocks k).1 + (Ti.bk S.blocks k).2 := by
  unfold Ti.St.byte1 at h
  have : ∀ n, Ti.byteTo S.blocks a n = true → ∃ k, k < n ∧ Ti.hasB (Ti.bk S.blocks k) a = true := by
    intro n
    induction n with
    | zero => simp [Ti.byteTo]
    | succ n ih =>
      intro h
      simp only [Ti.byteTo, Bool.or_eq_true] at h
      rcases h with h | h
      · obtain ⟨k, hk, h⟩ := ih h; exact ⟨k, by omega, h⟩
      · exact ⟨n, by omega, h⟩
  obtain ⟨k, hk, h⟩ := this _ h
  simp [Ti.hasB] at h
  exact ⟨k, hk, h.1, h.2⟩

theorem RefAt.zc {w : World} {r bf bz cap : Nat} {p : Option Addr} {S : Ti.St} (h : RefAt w r bf bz p cap S) (k : Nat) (hk : k < S.bytes.length) :
    w.cell? ⟨bz, k, none⟩ = some (.int .i64 (S.byte k)) ∧ w.frozen? ⟨bz, k, none⟩ = false := by
  obtain ⟨c, h1, _, h3⟩ := h.bytes
  exact ⟨by rw [cell_of h1]; exact h3 k hk, frozen_of h1 k⟩

/-- every block ends within the memory -/
def Within (S : Ti.St) : Prop := ∀ k, k < S.blocks.length → (Ti.bk S.blocks k).1 + (Ti.bk S.blocks k).2 ≤ S.bytes.length

set_option maxHeartbeats 1000000 in
theorem refLoad_any (w : World) (r bf bz cap : Nat) (p : Option Addr) (S : Ti.St) (a : Int) (hR : RefAt w r bf bz p cap S) (hB : Bd S) (hW : Within S) :
    Calls Tryd.prog 69 #[.pointer (some ⟨r, 0, none⟩), .int .i64 a] w fun e w' => e = .returned (.tuple #[.int .i64 (S.load a).1, .int .i64 (S.load a).2]) ∧ Ext none1 w w' := by
  have hl := hB.f16
  have hl2 := hB.bz
  go_enter Tryd.func69, Tryd.ntmps69
  go_wp2_with fail
  refine (byte1_any _ r bf bz cap p S a hR hB).mono ?_
  rintro e w' ⟨rfl, hE⟩
  have hRr := hR.keep0 hE
  cases hb : S.byte1 a
  · have Hfin : Hid (S.load a = (0, 4)) := by show _ = _; unfold Ti.St.load; rw [hb]; rfl
    clear hb
    go_wp2
    go_ret2
    exact ⟨by rw [Hfin.out]; rfl, hE⟩
  · have Hfin : Hid (S.load a = (S.byte a.toNat, 0)) := by show _ = _; unfold Ti.St.load; rw [hb]; rfl
    obtain ⟨k, hk, h1, h2⟩ := byte1_at S a hb
    obtain ⟨z1, z2, z3, z4⟩ := hB.at0 k hk
    have h5 := hW k hk
    obtain ⟨an, rfl⟩ := Int.eq_ofNat_of_zero_le (show 0 ≤ a by omega)
    have h6 : an < S.bytes.length := by omega
    obtain ⟨hc, _⟩ := hRr.zc an h6
    rw [Int.toNat_natCast] at Hfin
    have hr := hRr.c3
    have h7 : (an : Int) < S.bytes.length := by omega
    clear hb h1 h2 h5 hl2
    go_wp2
    go_ret2
    exact ⟨by rw [Hfin.out]; rfl, hE⟩

theorem set_byte (S : Ti.St) (a v : Nat) : True := trivial

set_option maxHeartbeats 1000000 in
theorem refStore_any (w : World) (r bf bz cap : Nat) (p : Option Addr) (S : Ti.St) (a v : Int) (hR : RefAt w r bf bz p cap S) (hB : Bd S) (hW : Within S) (hne : bz ≠ r ∧ bz ≠ bf ∧ ∀ x, p = some x → bz ≠ x.block) :
    Calls Tryd.prog 68 #[.pointer (some ⟨r, 0, none⟩), .int .i64 a, .int .i64 v] w fun e w' => e = .returned (.int .i64 (S.store a v).1) ∧
      Ext (one bz) w w' ∧ RefAt w' r bf bz p cap (S.store a v).2 := by
  have hl := hB.f16
  have hl2 := hB.bz
  by_cases e1 : v < 0
  · have Hfin : Hid (S.store a v = (1, S)) := by show _ = _; unfold Ti.St.store; rw [if_pos (Or.inl e1)]
    go_enter Tryd.func68, Tryd.ntmps68
    go_wp2
    go_ret
    exact ⟨by rw [Hfin.out]; rfl, Ext.refl _ _, by rw [Hfin.out]; exact hR⟩
  by_cases e2 : 255 < v
  · have Hfin : Hid (S.store a v = (1, S)) := by show _ = _; unfold Ti.St.store; rw [if_pos (Or.inr e2)]
    go_enter Tryd.func68, Tryd.ntmps68
    go_wp2
    go_ret
    exact ⟨by rw [Hfin.out]; rfl, Ext.refl _ _, by rw [Hfin.out]; exact hR⟩
  have Hs : Hid (S.store a v = if S.byte1 a = true then (0, { S with bytes := S.bytes.set a.toNat v }) else (4, S)) := by
    show _ = _; unfold Ti.St.store; rw [if_neg (by omega)]
  go_enter Tryd.func68, Tryd.ntmps68
  go_wp2_with fail
  refine (byte1_any _ r bf bz cap p S a hR hB).mono ?_
  rintro e w' ⟨rfl, hE⟩
  have hRr := hR.keep0 hE
  have hE' : Ext (one bz) w w' := hE.mono (fun _ _ x => x.elim)
  cases hb : S.byte1 a
  · have Hfin : Hid (S.store a v = (4, S)) := by show _ = _; rw [Hs.out, hb]; rfl
    clear Hs hb
    go_wp2
    go_ret
    exact ⟨by rw [Hfin.out]; rfl, hE', by rw [Hfin.out]; exact hRr⟩
  · obtain ⟨k, hk, h1, h2⟩ := byte1_at S a hb
    obtain ⟨z1, z2, z3, z4⟩ := hB.at0 k hk
    have h5 := hW k hk
    obtain ⟨an, rfl⟩ := Int.eq_ofNat_of_zero_le (show 0 ≤ a by omega)
    have h6 : an < S.bytes.length := by omega
    obtain ⟨hc, hf⟩ := hRr.zc an h6
    have hr := hRr.c3
    have h7 : (an : Int) < S.bytes.length := by omega
    have Hfin : Hid (S.store an v = (0, { S with bytes := S.bytes.set an v })) := by show _ = _; rw [Hs.out, hb]; rfl
    clear Hs hb h1 h2 h5 hl2
    go_wp2
    go_ret
    rw [Hfin.out]
    refine ⟨rfl, hE'.setCell ⟨bz, an, none⟩ (.inl rfl) _, ?_, ?_, ?_, ?_, hRr.le⟩
    · simpa using (heap_set_ne hne.1.symm _ _).trans hRr.hd
    · obtain ⟨c, q1, q2, q3⟩ := hRr.sups
      exact ⟨c, (heap_set_ne hne.2.1.symm _ _).trans q1, q2, q3⟩
    · obtain ⟨c, q1, q2, q3⟩ := hRr.bytes
      refine ⟨_, heap_set q1 _ _, by simpa using q2, fun j hj => ?_⟩
      simp only [List.length_set] at hj
      by_cases e : an = j
      · subst e; simp [q2, hj]
      · simp [Array.getElem?_setIfInBounds, e, q3 j hj]
    · intro j hj
      obtain ⟨bb, c, f, q1, q2, q3⟩ := hRr.blocks j hj
      exact ⟨bb, c, f, q1, (heap_set_ne (hne.2.2 _ q1).symm _ _).trans q2, q3⟩
end Go.Proofs.YtbagfepdmmfegaaDoor
