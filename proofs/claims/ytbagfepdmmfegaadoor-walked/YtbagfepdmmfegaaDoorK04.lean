import Derived.Test.YtbagfepdmmfegaaDoorK03
import Derived.Test.YtbagfepdmmfegaaDoorK01
set_option linter.unusedVariables false
set_option linter.unusedSimpArgs false
namespace Go.Proofs.YtbagfepdmmfegaaDoor
open Go.RowKit

theorem infoSuper : (Tryd.prog.info? 136).map (fun i => (i.zero, i.size, i.bytes)) = some (some (.agg #[.bool false, .int .i64 0, .int .i64 0]), 3, 24) := by kernel_rfl
theorem infoInt : (Tryd.prog.info? 3).map (fun i => (i.zero, i.size, i.bytes)) = some (some (.int .i64 0), 1, 8) := by kernel_rfl

theorem mkSupers (n : Nat) (hn : n ≤ 16) : ∃ c : Array Value, c.size = n * 3 ∧ (∀ k, k < n → c[k * 3]? = some (.bool false) ∧ c[k * 3 + 1]? = some (.int .i64 0) ∧ c[k * 3 + 2]? = some (.int .i64 0)) ∧
    ∀ w : World, (Instr.makeSlice 128 (.int .i64 (n : Int)) (.int .i64 (n : Int))).run Tryd.prog w = .ok (.slice (some ⟨w.heap.size, 0, none⟩) n n) (w.alloc (.cells c 136)) := by
  obtain ⟨i0, hi, h0, h1, h2⟩ := info_parts infoSuper
  refine ⟨madeCells #[.bool false, .int .i64 0, .int .i64 0] (n * 3), by simp [size_madeCells], fun k hk => ?_, fun w => ?_⟩
  · have a1 : k * 3 < n * 3 := by omega
    have a2 : k * 3 + 1 < n * 3 := by omega
    have a3 : k * 3 + 2 < n * 3 := by omega
    have b1 : k * 3 % 3 = 0 := by omega
    have b2 : (k * 3 + 1) % 3 = 1 := by omega
    have b3 : (k * 3 + 2) % 3 = 2 := by omega
    simp [madeCells, a1, a2, a3, b1, b2, b3]
  · have := run_make (P := Tryd.prog) w 128 136 i0 _ Tryd.underlying128 hi h0 .i64 .i64 n n (by omega) (Int.le_refl _) (by rw [h2]; omega) (by omega)
    simpa [h1, Value.cells] using this

theorem mkInts (n : Nat) (hn : n ≤ 1024) : ∃ c : Array Value, c.size = n ∧ (∀ k, k < n → c[k]? = some (.int .i64 0)) ∧
    ∀ w : World, (Instr.makeSlice 38 (.int .i64 (n : Int)) (.int .i64 (n : Int))).run Tryd.prog w = .ok (.slice (some ⟨w.heap.size, 0, none⟩) n n) (w.alloc (.cells c 3)) := by
  obtain ⟨i0, hi, h0, h1, h2⟩ := info_parts infoInt
  refine ⟨madeCells #[.int .i64 0] n, by simp [size_madeCells], fun k hk => ?_, fun w => ?_⟩
  · have b1 : k % 1 = 0 := by omega
    simp [madeCells, hk, b1]
  · have := run_make (P := Tryd.prog) w 38 3 i0 _ Tryd.underlying38 hi h0 .i64 .i64 n n (by omega) (Int.le_refl _) (by rw [h2]; omega) (by omega)
    simpa [h1, Value.cells] using this

def RefNew (w w' : World) (h s : Int) (n : Nat) (e : Ending) : Prop :=
  ∃ r bf bz, e = .returned (.tuple #[.pointer (some ⟨r, 0, none⟩), .int .i64 0]) ∧ RefAt w' r bf bz none 0 (Ti.newSt h n s) ∧ Apart4 r bf bz none ∧ (w.heap.size ≤ r ∧ w.heap.size ≤ bf ∧ w.heap.size ≤ bz) ∧ Ext none1 w w'

theorem heap4 (w : World) (a b c d : Obj) : ((((w.alloc a).alloc b).alloc c).alloc d).heap[w.heap.size + 1]? = some b ∧ ((((w.alloc a).alloc b).alloc c).alloc d).heap[w.heap.size + 2]? = some c ∧
    ((((w.alloc a).alloc b).alloc c).alloc d).heap[w.heap.size + 3]? = some d := by
  refine ⟨?_, ?_, ?_⟩
  · show ((((w.heap.push a).push b).push c).push d)[_]? = _
    simp [Array.getElem_push]
  · show ((((w.heap.push a).push b).push c).push d)[_]? = _
    simp [Array.getElem_push]
  · show ((((w.heap.push a).push b).push c).push d)[_]? = _
    simp [Array.getElem_push]

theorem refNew_mk {w W : World} (h s : Int) (n r bf bz : Nat) (c1 c2 : Array Value)
    (hd : W.heap[r]? = some (.cells #[.int .i64 h, .int .i64 n, .int .i64 s, .slice (some ⟨bf, 0, none⟩) n n, .slice none 0 0, .slice (some ⟨bz, 0, none⟩) (64 * n) (64 * n)] 131 (0, 0)))
    (hs : W.heap[bf]? = some (.cells c1 136 (0, 0))) (hz : W.heap[bz]? = some (.cells c2 3 (0, 0)))
    (z1 : c1.size = n * 3) (z2 : ∀ k, k < n → c1[k * 3]? = some (.bool false) ∧ c1[k * 3 + 1]? = some (.int .i64 0) ∧ c1[k * 3 + 2]? = some (.int .i64 0))
    (y1 : c2.size = 64 * n) (y2 : ∀ k, k < 64 * n → c2[k]? = some (.int .i64 0)) (hne : r ≠ bf ∧ r ≠ bz ∧ bf ≠ bz) (hb : w.heap.size ≤ r ∧ w.heap.size ≤ bf ∧ w.heap.size ≤ bz) (hE : Ext none1 w W) :
    RefNew w W h s n (.returned (.tuple #[.pointer (some ⟨r, 0, none⟩), .int .i64 0])) := by
  refine ⟨r, bf, bz, rfl, ⟨?_, ?_, ?_, ?_, by simp [Ti.newSt]⟩, ⟨hne.1, hne.2.1, hne.2.2, fun x hx => by cases hx⟩, hb, hE⟩
  · simpa [Ti.newSt] using hd
  · refine ⟨c1, hs, by simpa [Ti.newSt] using z1, fun k hk => ?_⟩
    have hk' : k < n := by simpa [Ti.newSt] using hk
    have : (Ti.newSt h n s).sup k = Ti.sup0 := by simp [Ti.St.sup, Ti.newSt, hk']
    rw [this]; exact z2 k hk'
  · refine ⟨c2, hz, by simpa [Ti.newSt] using y1, fun k hk => ?_⟩
    have hk' : k < 64 * n := by simpa [Ti.newSt] using hk
    rw [y2 k hk']; simp [Ti.newSt, hk']
  · intro k hk
    simp [Ti.newSt] at hk

set_option maxRecDepth 100000 in
set_option maxHeartbeats 2000000 in
theorem refNew_ok (w : World) (h s : Int) (n : Nat) (h1 : 1 ≤ h) (h4 : h ≤ 4) (n1 : 1 ≤ n) (n16 : n ≤ 16) (s1 : 1 ≤ s) (s4 : s ≤ 4) :
    Calls Tryd.prog 64 #[.agg #[.int .i64 h, .int .i64 n, .int .i64 s]] w fun e w' => RefNew w w' h s n e := by
  obtain ⟨c1, z1, z2, m1⟩ := mkSupers n n16
  obtain ⟨c2, y1, y2, m2⟩ := mkInts (64 * n) (by omega)
  have ec : ((64 * n : Nat) : Int) = 64 * (n : Int) := by omega
  rw [ec] at m2
  clear ec
  go_enter Tryd.func64, Tryd.ntmps64
  go_wp2
  go_region
  all_goals go_wp2
  · go_ret2
    exact refNew_mk h s n (w.heap.size + 3) (w.heap.size + 1) (w.heap.size + 2) c1 c2 (heap4 _ _ _ _ _).2.2 (heap4 _ _ _ _ _).1 (heap4 _ _ _ _ _).2.1 z1 z2 y1 y2 (by omega) (by omega) (((((Ext.refl _ _).alloc _).alloc _).alloc _).alloc _).drew
  · go_ret2
    exact refNew_mk h s n (w.heap.size + 3) (w.heap.size + 2) (w.heap.size + 1) c1 c2 (heap4 _ _ _ _ _).2.2 (heap4 _ _ _ _ _).2.1 (heap4 _ _ _ _ _).1 z1 z2 y1 y2 (by omega) (by omega) (((((Ext.refl _ _).alloc _).alloc _).alloc _).alloc _).drew

set_option maxRecDepth 100000 in
set_option maxHeartbeats 2000000 in
theorem refNew_no (w : World) (h s n : Int) (hno : Ti.okConfig h n s = false) :
    Calls Tryd.prog 64 #[.agg #[.int .i64 h, .int .i64 n, .int .i64 s]] w fun e w' => e = .returned (.tuple #[.pointer none, .int .i64 1]) ∧ Ext none1 w w' := by
  have hh : h < 1 ∨ 4 < h ∨ n < 1 ∨ 16 < n ∨ s < 1 ∨ 4 < s := by
    simp [Ti.okConfig] at hno; omega
  clear hno
  by_cases a1 : h < 1
  · go_enter Tryd.func64, Tryd.ntmps64
    go_wp2
    go_ret2
    exact ⟨rfl, (Ext.refl _ _).alloc _⟩
  by_cases a2 : 4 < h
  · go_enter Tryd.func64, Tryd.ntmps64
    go_wp2
    go_ret2
    exact ⟨rfl, (Ext.refl _ _).alloc _⟩
  by_cases a3 : n < 1
  · go_enter Tryd.func64, Tryd.ntmps64
    go_wp2
    go_ret2
    exact ⟨rfl, (Ext.refl _ _).alloc _⟩
  by_cases a4 : 16 < n
  · go_enter Tryd.func64, Tryd.ntmps64
    go_wp2
    go_ret2
    exact ⟨rfl, (Ext.refl _ _).alloc _⟩
  by_cases a5 : s < 1
  · go_enter Tryd.func64, Tryd.ntmps64
    go_wp2
    go_ret2
    exact ⟨rfl, (Ext.refl _ _).alloc _⟩
  have a6 : 4 < s := by omega
  go_enter Tryd.func64, Tryd.ntmps64
  go_wp2
  go_ret2
  exact ⟨rfl, (Ext.refl _ _).alloc _⟩
end Go.Proofs.YtbagfepdmmfegaaDoor

namespace Go.Proofs.YtbagfepdmmfegaaDoor
open Go.RowKit

theorem RefAt.setSup {w : World} {r bf bz cap : Nat} {p : Option Addr} {S : Ti.St} (h : RefAt w r bf bz p cap S) (hA : Apart4 r bf bz p) (f : Nat) (hf : f < S.sups.length) (s : Ti.Sup) :
    RefAt (((w.setCell ⟨bf, f * 3, none⟩ (.bool s.is)).setCell ⟨bf, f * 3 + 1, none⟩ (.int .i64 s.cls)).setCell ⟨bf, f * 3 + 2, none⟩ (.int .i64 s.heap)) r bf bz p cap (S.setSup f s) := by
  refine ⟨?_, ?_, ?_, ?_, h.le⟩
  · rw [heap_set_ne hA.rf, heap_set_ne hA.rf, heap_set_ne hA.rf]
    simpa [Ti.St.setSup] using h.hd
  · obtain ⟨c, q1, q2, q3⟩ := h.sups
    refine ⟨_, heap_set (heap_set (heap_set q1 _ _) _ _) _ _, by simpa [Ti.St.setSup] using q2, fun k hk => ?_⟩
    have hk' : k < S.sups.length := by simpa [Ti.St.setSup] using hk
    by_cases e : f = k
    · subst e
      have : (S.setSup f s).sup f = s := by simp [Ti.St.setSup, Ti.St.sup, hf]
      rw [this]
      have a1 : f * 3 < c.size := by omega
      have a2 : f * 3 + 1 < c.size := by omega
      have a3 : f * 3 + 2 < c.size := by omega
      refine ⟨?_, ?_, ?_⟩
      · rw [Array.getElem?_setIfInBounds_ne (by omega), Array.getElem?_setIfInBounds_ne (by omega)]; simp [a1]
      · rw [Array.getElem?_setIfInBounds_ne (by omega)]; simp [a2]
      · simp [a3]
    · have : (S.setSup f s).sup k = S.sup k := by simp [Ti.St.setSup, Ti.St.sup, List.getElem?_set, e]
      rw [this]
      obtain ⟨b1, b2, b3⟩ := q3 k hk'
      refine ⟨?_, ?_, ?_⟩
      · rw [Array.getElem?_setIfInBounds_ne (by omega), Array.getElem?_setIfInBounds_ne (by omega), Array.getElem?_setIfInBounds_ne (by omega)]; exact b1
      · rw [Array.getElem?_setIfInBounds_ne (by omega), Array.getElem?_setIfInBounds_ne (by omega), Array.getElem?_setIfInBounds_ne (by omega)]; exact b2
      · rw [Array.getElem?_setIfInBounds_ne (by omega), Array.getElem?_setIfInBounds_ne (by omega), Array.getElem?_setIfInBounds_ne (by omega)]; exact b3
  · obtain ⟨c, q1, q2, q3⟩ := h.bytes
    refine ⟨c, ?_, q2, q3⟩
    rw [heap_set_ne hA.fz.symm, heap_set_ne hA.fz.symm, heap_set_ne hA.fz.symm]; exact q1
  · intro j hj
    obtain ⟨bb, c, f', q1, q2, q3⟩ := h.blocks j hj
    refine ⟨bb, c, f', q1, ?_, q3⟩
    have := (hA.pr _ q1).2.1
    rw [heap_set_ne this, heap_set_ne this, heap_set_ne this]; exact q2

/-- the frame that Malloc takes -/
theorem place_cases (S : Ti.St) (h c : Int) : True := trivial

/-- there is a slot -/
def SlotOk (S : Ti.St) (c : Int) (f : Nat) : Prop := ∃ n, n < 8 ∧ Ti.atI S.blocks (64 * f + n * Ti.width c) < 0 ∧ (∀ m, m < n → 0 ≤ Ti.atI S.blocks (64 * f + m * Ti.width c)) ∧ (n : Int) < Ti.slots c

theorem slotFrom_at (bs : List (Int × Int)) (wd : Int) (a : Int) (n N : Nat) (hn : n < N) (h1 : Ti.atI bs (a + n * wd) < 0) (h2 : ∀ m, m < n → 0 ≤ Ti.atI bs (a + m * wd)) : Ti.slotFrom bs wd N a = a + n * wd := by
  induction N generalizing n a with
  | zero => omega
  | succ N ih =>
    cases n with
    | zero =>
      simp at h1 ⊢
      rw [Ti.slotFrom, if_neg (by omega)]
    | succ n =>
      have h0 := h2 0 (by omega)
      simp at h0
      rw [Ti.slotFrom, if_pos h0]
      have e : ∀ m : Nat, a + ((m + 1 : Nat) : Int) * wd = (a + wd) + (m : Int) * wd := by
        intro m
        rw [show ((m + 1 : Nat) : Int) = (m : Int) + 1 by omega, Int.add_mul, Int.one_mul]; omega
      rw [ih (a + wd) n (by omega) (by rw [← e]; exact h1) (fun m hm => by rw [← e]; exact h2 (m + 1) (by omega)), ← e]
end Go.Proofs.YtbagfepdmmfegaaDoor

namespace Go.Proofs.YtbagfepdmmfegaaDoor
open Go.RowKit

theorem bk_ge (S : Ti.St) (hI : Ti.Inv0 S) (k : Nat) (hk : k < S.blocks.length) : (k : Int) ≤ (Ti.bk S.blocks k).1 := by
  induction k with
  | zero => exact (hI.ok _ (Ti.bk_mem hk)).2.2.1
  | succ k ih =>
    have h1 := ih (by omega)
    have h2 := Ti.bk_lt hI.sorted (show k < k + 1 by omega) hk
    omega

theorem small_end (S : Ti.St) (b : Int × Int) (h : Ti.BlockOk S b) : b.1 + b.2 ≤ 64 * S.sups.length := by
  obtain ⟨o1, o2, o3, o4, o5, o6⟩ := h
  by_cases hs : b.2 ≤ 32
  · obtain ⟨_, _, q⟩ := o5 hs
    have h1 := Ti.cls_width b.2 hs
    have h2 := Ti.width_slots (Ti.clsOf b.2)
    rcases h2 with ⟨e, _⟩ | ⟨e, _⟩ | ⟨e, _⟩ <;> rw [e] at q h1 <;> omega
  · exact (o6 (by omega)).2.1

theorem Bd.of (S : Ti.St) (hI : Ti.Inv0 S) : Bd S := by
  have h16 := hI.f16
  refine ⟨hI.h1, hI.h4, hI.s1, hI.s4, hI.f16, ?_, hI.bz, fun k hk => ?_⟩
  · apply Nat.not_lt.1; intro hlt
    have h1 := bk_ge S hI 1024 hlt
    have h2 := (hI.ok _ (Ti.bk_mem hlt)).2.2.2.1
    omega
  · obtain ⟨o1, o2, o3, o4, _⟩ := hI.ok _ (Ti.bk_mem hk)
    exact ⟨o3, by omega, o1, o2⟩
theorem Within.of (S : Ti.St) (hI : Ti.Inv0 S) : Within S := fun k hk => by
  have := small_end S _ (hI.ok _ (Ti.bk_mem hk))
  have := hI.bz
  omega

def three (a b c : Nat) : Nat → Prop := fun k => k = a ∨ k = b ∨ k = c

/-- what a call leaves of the reference's tithe -/
def RefPost (w w' : World) (r bf bz : Nat) (p : Option Addr) (S' : Ti.St) : Prop :=
  ∃ p' cap', RefAt w' r bf bz p' cap' S' ∧ Apart4 r bf bz p' ∧ ((p' = p ∧ ∃ cap, RefAt w r bf bz p cap S') ∨ ∀ x, p' = some x → w.heap.size ≤ x.block) ∧ Ext (three r bf bz) w w'

theorem RefPost.same {w w' : World} {r bf bz cap : Nat} {p : Option Addr} {S : Ti.St} (hR : RefAt w r bf bz p cap S) (hA : Apart4 r bf bz p) (hE : Ext none1 w w') : RefPost w w' r bf bz p S :=
  ⟨p, cap, hR.keep0 hE, hA, (.inl ⟨rfl, cap, hR⟩), hE.mono (fun _ _ x => x.elim)⟩

theorem Apart4.new {w : World} {r bf bz cap : Nat} {p p' : Option Addr} {S : Ti.St} (hR : RefAt w r bf bz p cap S) (hA : Apart4 r bf bz p) (hp : ∀ x, p' = some x → w.heap.size ≤ x.block) : Apart4 r bf bz p' :=
  ⟨hA.rf, hA.rz, hA.fz, fun x hx => by
    have h1 := hp x hx
    have h2 := lt_of_heap hR.hd
    obtain ⟨_, h3, _⟩ := hR.sups
    obtain ⟨_, h4, _⟩ := hR.bytes
    have h3 := lt_of_heap h3
    have h4 := lt_of_heap h4
    exact ⟨by omega, by omega, by omega⟩⟩

set_option maxRecDepth 100000 in
set_option maxHeartbeats 2000000 in
theorem refMalloc_arg (w : World) (r : Nat) (worker size : Int) (h : worker < 0 ∨ 1000 < worker ∨ size < 1 ∨ 256 < size) :
    Calls Tryd.prog 66 #[.pointer (some ⟨r, 0, none⟩), .int .i64 worker, .int .i64 size] w fun e w' => e = .returned (.tuple #[.int .i64 0, .int .i64 1]) ∧ w = w' := by
  by_cases a1 : worker < 0
  · go_enter Tryd.func66, Tryd.ntmps66
    go_wp2
    go_ret2
    exact ⟨rfl, rfl⟩
  by_cases a2 : 1000 < worker
  · go_enter Tryd.func66, Tryd.ntmps66
    go_wp2
    go_ret2
    exact ⟨rfl, rfl⟩
  by_cases a3 : size < 1
  · go_enter Tryd.func66, Tryd.ntmps66
    go_wp2
    go_ret2
    exact ⟨rfl, rfl⟩
  have a4 : 256 < size := by omega
  go_enter Tryd.func66, Tryd.ntmps66
  go_wp2
  go_ret2
  exact ⟨rfl, rfl⟩

set_option maxRecDepth 100000 in
set_option maxHeartbeats 2000000 in
theorem refMalloc_large (w : World) (r bf bz cap : Nat) (p : Option Addr) (S : Ti.St) (worker size : Int) (hR : RefAt w r bf bz p cap S) (hI : Ti.Inv S) (hA : Apart4 r bf bz p) (w0 : 0 ≤ worker) (w1 : worker ≤ 1000) (s1 : 32 < size) (s2 : size ≤ 256) :
    Calls Tryd.prog 66 #[.pointer (some ⟨r, 0, none⟩), .int .i64 worker, .int .i64 size] w fun e w' => e = .returned (.tuple #[.int .i64 (S.mallocLarge size).1.1, .int .i64 (S.mallocLarge size).1.2]) ∧ RefPost w w' r bf bz p (S.mallocLarge size).2 := by
  have hB := Bd.of S hI.toInv0
  have hm : ∃ n : Nat, (size + 64 - 1) / 64 = (n : Int) ∧ ((size + 63) / 64).toNat = n ∧ 1 ≤ n ∧ n ≤ 4 ∧ size ≤ 64 * n := ⟨((size + 63) / 64).toNat, by omega, rfl, by omega, by omega, by omega⟩
  obtain ⟨n, e1, e2, n1, n4, n5⟩ := hm
  have Hm : Hid (S.mallocLarge size = if S.run n < 0 then ((0, 2), S) else ((64 * S.run n, 0), S.put (64 * S.run n, size))) := by show _ = _; simp only [Ti.St.mallocLarge, e2]
  have He : Hid ((size + 64 - 1) / 64 = (n : Int)) := e1
  clear e1 e2
  go_enter Tryd.func66, Tryd.ntmps66
  go_wp2_with fail
  rw [He.out]
  refine (run_any _ r bf bz cap p S n hR hB n1 n4).mono ?_
  rintro e w' ⟨rfl, hE⟩
  rcases Ti.run_spec S n with ⟨ha, _⟩ | ⟨f, hf, ha, hb⟩
  · have Hm' : Hid (S.mallocLarge size = ((0, 2), S)) := by show _ = _; rw [Hm.out, if_pos (by omega)]
    rw [ha]
    clear Hm ha
    go_wp2
    go_ret2
    exact ⟨by rw [Hm'.out]; rfl, by rw [Hm'.out]; exact RefPost.same hR hA hE⟩
  · have Hm' : Hid (S.mallocLarge size = ((64 * (f : Int), 0), S.put (64 * (f : Int), size))) := by show _ = _; rw [Hm.out, ha, if_neg (by omega)]
    rw [ha]
    have h16 := hI.f16
    have hz := hI.bz
    clear Hm ha
    go_wp2_with fail
    refine (put_any _ r bf bz cap p S (64 * (f : Int)) size (hR.keep0 hE) hB hA (by omega) (by omega) (by omega) (by omega)).mono ?_
    rintro e w2 ⟨rfl, p', cap', hR2, hp2, hE2⟩
    have hsz := hE.size
    go_wp2
    go_ret2
    refine ⟨by rw [Hm'.out]; rfl, ?_⟩
    rw [Hm'.out]
    exact ⟨p', cap', hR2, Apart4.new (hR.keep0 hE) hA hp2, (.inr fun x hx => by have := hp2 x hx; omega), (hE.mono (fun _ _ x => x.elim)).trans (hE2.mono (fun k _ hk => by rcases hk with rfl | rfl; exact .inl rfl; exact .inr (.inr rfl)))⟩
end Go.Proofs.YtbagfepdmmfegaaDoor

namespace Go.Proofs.YtbagfepdmmfegaaDoor
open Go.RowKit

theorem place_ways (S : Ti.St) (h c v : Int) (hp : S.place h c = v) : (0 ≤ v ∧ S.fullest h c = v) ∨ (0 ≤ v ∧ S.fullest h c = -1 ∧ S.fullest 0 c = v) ∨ (S.fullest h c = -1 ∧ S.fullest 0 c = -1 ∧ S.run 1 = v) := by
  unfold Ti.St.place at hp
  rcases Ti.fullest_spec S h c with ⟨a, _⟩ | ⟨f, hf, a, _⟩
  · rw [if_neg (by omega)] at hp
    rcases Ti.fullest_spec S 0 c with ⟨b, _⟩ | ⟨f, hf, b, _⟩
    · rw [if_neg (by omega)] at hp
      exact .inr (.inr ⟨a, b, hp⟩)
    · rw [if_pos (by omega)] at hp
      exact .inr (.inl ⟨by omega, a, hp⟩)
  · rw [if_pos (by omega)] at hp
    exact .inl ⟨by omega, hp⟩

theorem RefAt.sf {w : World} {r bf bz cap : Nat} {p : Option Addr} {S : Ti.St} (h : RefAt w r bf bz p cap S) (o : Nat) : w.frozen? ⟨bf, o, none⟩ = false := by
  obtain ⟨c, h1, _⟩ := h.sups
  exact frozen_of h1 o

set_option maxRecDepth 100000 in
set_option maxHeartbeats 4000000 in
theorem refMalloc_small (w : World) (r bf bz cap : Nat) (p : Option Addr) (S : Ti.St) (worker size : Int) (hR : RefAt w r bf bz p cap S) (hI : Ti.Inv S) (hA : Apart4 r bf bz p) (w0 : 0 ≤ worker) (w1 : worker ≤ 1000) (s1 : 1 ≤ size) (s2 : size ≤ 32) :
    Calls Tryd.prog 66 #[.pointer (some ⟨r, 0, none⟩), .int .i64 worker, .int .i64 size] w fun e w' => e = .returned (.tuple #[.int .i64 (S.mallocSmall worker size).1.1, .int .i64 (S.mallocSmall worker size).1.2]) ∧ RefPost w w' r bf bz p (S.mallocSmall worker size).2 := by
  have hB := Bd.of S hI.toInv0
  have hh1 := hI.h1
  have hh4 := hI.h4
  have h16 := hI.f16
  have hz := hI.bz
  have hm0 : 0 ≤ worker % S.heaps := Int.emod_nonneg _ (by omega)
  have hm1 : worker % S.heaps < S.heaps := Int.emod_lt_of_pos _ (by omega)
  have cr0 : w.cell? ⟨r, 0, none⟩ = some (.int .i64 S.heaps) := by rw [cell_of hR.hd]; rfl
  have hcr := Ti.cls_range size
  have hwc := Ti.cls_width size s2
  rcases Ti.mallocSmall_spec S hI.toInv0 worker size s1 s2 with ⟨hpl, heq⟩ | ⟨f, n, hf, hpl, hn, hp, hn1, hn2, heq⟩
  · have Heq : Hid (S.mallocSmall worker size = ((0, 2), S)) := heq
    have hw := place_ways S _ _ _ hpl
    have h1 : S.fullest (1 + worker % S.heaps) (Ti.clsOf size) = -1 ∧ S.fullest 0 (Ti.clsOf size) = -1 ∧ S.run 1 = -1 := by omega
    have H1 : Hid (S.fullest (1 + worker % S.heaps) (Ti.clsOf size) = -1) := h1.1
    have H2 : Hid (S.fullest 0 (Ti.clsOf size) = -1) := h1.2.1
    have H3 : Hid (S.run 1 = -1) := h1.2.2
    clear heq hw h1 hpl
    generalize hcd : Ti.clsOf size = c at *
    have Hcd : Hid (Ti.clsOf size = c) := hcd
    clear hcd
    go_enter Tryd.func66, Tryd.ntmps66
    go_wp2_with fail
    refine (class_any _ _ s2).mono ?_
    rintro e w' ⟨rfl, rfl⟩
    rw [Hcd.out]
    have hd1 : decide (worker < 0) = false := decide_eq_false (by omega)
    have hd2 : decide (1000 < worker) = false := decide_eq_false (by omega)
    have hd3 : decide (size < 1) = false := decide_eq_false (by omega)
    have hd4 : decide (256 < size) = false := decide_eq_false (by omega)
    have hd5 : decide (32 < size) = false := decide_eq_false (by omega)
    go_wp2_with fail
    refine (fullest_any _ r bf bz cap p S _ _ hR hB).mono ?_
    rintro e w1' ⟨rfl, hE1⟩
    have hR1 := hR.keep0 hE1
    rw [H1.out]
    go_wp2_with fail
    refine (fullest_any _ r bf bz cap p S _ _ hR1 hB).mono ?_
    rintro e w2' ⟨rfl, hE2⟩
    have hR2 := hR1.keep0 hE2
    rw [H2.out]
    go_wp2_with fail
    refine (run_any _ r bf bz cap p S 1 hR2 hB (by omega) (by omega)).mono ?_
    rintro e w3' ⟨rfl, hE3⟩
    rw [H3.out]
    go_wp2
    go_ret2
    exact ⟨by rw [Heq.out]; rfl, by rw [Heq.out]; exact RefPost.same hR hA ((hE1.trans hE2).trans hE3)⟩
  · have Heq : Hid (S.mallocSmall worker size = ((64 * f + n * Ti.width (Ti.clsOf size), 0), (S.setSup f ⟨true, Ti.clsOf size, 1 + worker % S.heaps⟩).put (64 * f + n * Ti.width (Ti.clsOf size), size))) := heq
    have hw := place_ways S _ _ _ hpl
    have hsb := Ti.slot_bounds (Ti.clsOf size) n hn
    clear heq hpl hp
    generalize hcd : Ti.clsOf size = c at *
    have Hcd : Hid (Ti.clsOf size = c) := hcd
    clear hcd
    go_enter Tryd.func66, Tryd.ntmps66
    go_wp2_with fail
    refine (class_any _ _ s2).mono ?_
    rintro e w' ⟨rfl, rfl⟩
    rw [Hcd.out]
    have hd1 : decide (worker < 0) = false := decide_eq_false (by omega)
    have hd2 : decide (1000 < worker) = false := decide_eq_false (by omega)
    have hd3 : decide (size < 1) = false := decide_eq_false (by omega)
    have hd4 : decide (256 < size) = false := decide_eq_false (by omega)
    have hd5 : decide (32 < size) = false := decide_eq_false (by omega)
    go_wp2_with fail
    refine (fullest_any _ r bf bz cap p S _ _ hR hB).mono ?_
    rintro e w1' ⟨rfl, hE1⟩
    have hR1 := hR.keep0 hE1
    have fin : ∀ (W : World), Ext none1 w W → RefAt W r bf bz p cap S →
        Ext (three r bf bz) w (((W.setCell ⟨bf, f * 3, none⟩ (.bool true)).setCell ⟨bf, f * 3 + 1, none⟩ (.int .i64 c)).setCell ⟨bf, f * 3 + 2, none⟩ (.int .i64 (1 + worker % S.heaps))) ∧
        RefAt (((W.setCell ⟨bf, f * 3, none⟩ (.bool true)).setCell ⟨bf, f * 3 + 1, none⟩ (.int .i64 c)).setCell ⟨bf, f * 3 + 2, none⟩ (.int .i64 (1 + worker % S.heaps))) r bf bz p cap (S.setSup f ⟨true, c, 1 + worker % S.heaps⟩) := by
      intro W hE hRW
      exact ⟨((((hE.mono (fun _ _ x => x.elim)).setCell ⟨bf, _, none⟩ (.inl (.inr (.inl rfl))) _)).setCell ⟨bf, _, none⟩ (.inl (.inr (.inl rfl))) _).setCell ⟨bf, _, none⟩ (.inl (.inr (.inl rfl))) _, hRW.setSup hA f hf ⟨true, c, 1 + worker % S.heaps⟩⟩
    rcases hw with ⟨h0, h1⟩ | ⟨h0, h1, h2⟩ | ⟨h1, h2, h3⟩
    · rw [h1]
      have hE := hE1
      have hRW := hR1
      rename World => W
      clear h1 hE1 hR1
      obtain ⟨q1, q2, q3⟩ := hRW.sc f hf
      have qf1 := hRW.sf (f * 3)
      have qf2 := hRW.sf (f * 3 + 1)
      have qf3 := hRW.sf (f * 3 + 2)
      have hr := hRW.c1
      go_wp2
      obtain ⟨hE2, hR2⟩ := fin W hE hRW
      have hsz := hE.size
      generalize ((W.setCell ⟨bf, f * 3, none⟩ (.bool true)).setCell ⟨bf, f * 3 + 1, none⟩ (.int .i64 c)).setCell ⟨bf, f * 3 + 2, none⟩ (.int .i64 (1 + worker % S.heaps)) = W2 at hE2 hR2 ⊢
      clear q1 q2 q3 qf1 qf2 qf3 hr fin hE hRW
      have hB' : Bd (S.setSup f ⟨true, c, 1 + worker % S.heaps⟩) := ⟨hB.h1, hB.h4, hB.s1, hB.s4, by rw [Ti.len_setSup]; exact hB.f16, hB.b1024, by rw [Ti.len_setSup]; exact hB.bz, hB.at0⟩
      go_loop [14] (fun t => ∃ m : Nat, m ≤ n ∧ t = .int .i64 (64 * f + m * Ti.width c)) (fun t => (64 * f + n * Ti.width c - intOf t).toNat)
      case atStart => exact ⟨0, Nat.zero_le _, by simp⟩
      case round =>
        obtain ⟨m, hm, rfl⟩ := hrel
        have hmw : (m : Int) * Ti.width c ≤ n * Ti.width c := Int.mul_le_mul_of_nonneg_right (by omega) (by omega)
        have hmw0 : 0 ≤ (m : Int) * Ti.width c := Int.mul_nonneg (by omega) (by omega)
        go_wp2_with fail
        refine (at_any _ r bf bz cap p (S.setSup f ⟨true, c, 1 + worker % S.heaps⟩) _ hR2 hB').mono ?_
        rintro e w' ⟨rfl, rfl⟩
        have hbl : (S.setSup f ⟨true, c, 1 + worker % S.heaps⟩).blocks = S.blocks := rfl
        rw [hbl]
        clear hbl
        by_cases hlt : m < n
        · have h5 := hn2 m hlt
          have hw32 : Ti.width c ≤ 64 := by omega
          have hst : Hid (64 * (f : Int) + ((m + 1 : Nat) : Int) * Ti.width c = 64 * f + m * Ti.width c + Ti.width c) := by
            show _ = _
            rw [show ((m + 1 : Nat) : Int) = (m : Int) + 1 by omega, Int.add_mul, Int.one_mul]; omega
          go_wp2_with (go_at_call 89; refine (width_any _ _).mono ?_; rintro e w' ⟨rfl, rfl⟩)
          go_round
          case rel => exact ⟨m + 1, by omega, by rw [hst.out]⟩
          case measure =>
            have : ((m : Int) + 1) * Ti.width c ≤ n * Ti.width c := Int.mul_le_mul_of_nonneg_right (by omega) (by omega)
            rw [Int.add_mul, Int.one_mul] at this
            simp [intOf]; omega
        · have e : m = n := by omega
          subst e
          have h5 : ¬ 0 ≤ Ti.atI S.blocks (64 * f + m * Ti.width c) := by omega
          go_wp2_with fail
          refine (put_any _ r bf bz cap p (S.setSup f ⟨true, c, 1 + worker % S.heaps⟩) (64 * f + m * Ti.width c) size hR2 hB' hA (by omega) (by omega) (by omega) (by show _ ≤ (S.bytes.length : Int); omega)).mono ?_
          rintro e w9 ⟨rfl, p', cap', hR9, hp9, hE9⟩
          have hsz9 := hE2.size
          go_wp2
          go_ret2
          refine ⟨by rw [Heq.out]; rfl, ?_⟩
          rw [Heq.out]
          exact ⟨p', cap', hR9, Apart4.new hR2 hA hp9, (.inr fun x hx => by have := hp9 x hx; omega), hE2.trans (hE9.mono (fun k _ hk => by rcases hk with rfl | rfl; exact .inl rfl; exact .inr (.inr rfl)))⟩
    · rw [h1]
      go_wp2_with fail
      refine (fullest_any _ r bf bz cap p S _ _ hR1 hB).mono ?_
      rintro e w2' ⟨rfl, hE2'⟩
      have hR2' := hR1.keep0 hE2'
      rw [h2]
      have hE := hE1.trans hE2'
      have hRW := hR2'
      rename World => W
      clear h1 h2 hE1 hR1 hE2' hR2'
      obtain ⟨q1, q2, q3⟩ := hRW.sc f hf
      have qf1 := hRW.sf (f * 3)
      have qf2 := hRW.sf (f * 3 + 1)
      have qf3 := hRW.sf (f * 3 + 2)
      have hr := hRW.c1
      go_wp2
      obtain ⟨hE2, hR2⟩ := fin W hE hRW
      have hsz := hE.size
      generalize ((W.setCell ⟨bf, f * 3, none⟩ (.bool true)).setCell ⟨bf, f * 3 + 1, none⟩ (.int .i64 c)).setCell ⟨bf, f * 3 + 2, none⟩ (.int .i64 (1 + worker % S.heaps)) = W2 at hE2 hR2 ⊢
      clear q1 q2 q3 qf1 qf2 qf3 hr fin hE hRW
      have hB' : Bd (S.setSup f ⟨true, c, 1 + worker % S.heaps⟩) := ⟨hB.h1, hB.h4, hB.s1, hB.s4, by rw [Ti.len_setSup]; exact hB.f16, hB.b1024, by rw [Ti.len_setSup]; exact hB.bz, hB.at0⟩
      go_loop [14] (fun t => ∃ m : Nat, m ≤ n ∧ t = .int .i64 (64 * f + m * Ti.width c)) (fun t => (64 * f + n * Ti.width c - intOf t).toNat)
      case atStart => exact ⟨0, Nat.zero_le _, by simp⟩
      case round =>
        obtain ⟨m, hm, rfl⟩ := hrel
        have hmw : (m : Int) * Ti.width c ≤ n * Ti.width c := Int.mul_le_mul_of_nonneg_right (by omega) (by omega)
        have hmw0 : 0 ≤ (m : Int) * Ti.width c := Int.mul_nonneg (by omega) (by omega)
        go_wp2_with fail
        refine (at_any _ r bf bz cap p (S.setSup f ⟨true, c, 1 + worker % S.heaps⟩) _ hR2 hB').mono ?_
        rintro e w' ⟨rfl, rfl⟩
        have hbl : (S.setSup f ⟨true, c, 1 + worker % S.heaps⟩).blocks = S.blocks := rfl
        rw [hbl]
        clear hbl
        by_cases hlt : m < n
        · have h5 := hn2 m hlt
          have hw32 : Ti.width c ≤ 64 := by omega
          have hst : Hid (64 * (f : Int) + ((m + 1 : Nat) : Int) * Ti.width c = 64 * f + m * Ti.width c + Ti.width c) := by
            show _ = _
            rw [show ((m + 1 : Nat) : Int) = (m : Int) + 1 by omega, Int.add_mul, Int.one_mul]; omega
          go_wp2_with (go_at_call 89; refine (width_any _ _).mono ?_; rintro e w' ⟨rfl, rfl⟩)
          go_round
          case rel => exact ⟨m + 1, by omega, by rw [hst.out]⟩
          case measure =>
            have : ((m : Int) + 1) * Ti.width c ≤ n * Ti.width c := Int.mul_le_mul_of_nonneg_right (by omega) (by omega)
            rw [Int.add_mul, Int.one_mul] at this
            simp [intOf]; omega
        · have e : m = n := by omega
          subst e
          have h5 : ¬ 0 ≤ Ti.atI S.blocks (64 * f + m * Ti.width c) := by omega
          go_wp2_with fail
          refine (put_any _ r bf bz cap p (S.setSup f ⟨true, c, 1 + worker % S.heaps⟩) (64 * f + m * Ti.width c) size hR2 hB' hA (by omega) (by omega) (by omega) (by show _ ≤ (S.bytes.length : Int); omega)).mono ?_
          rintro e w9 ⟨rfl, p', cap', hR9, hp9, hE9⟩
          have hsz9 := hE2.size
          go_wp2
          go_ret2
          refine ⟨by rw [Heq.out]; rfl, ?_⟩
          rw [Heq.out]
          exact ⟨p', cap', hR9, Apart4.new hR2 hA hp9, (.inr fun x hx => by have := hp9 x hx; omega), hE2.trans (hE9.mono (fun k _ hk => by rcases hk with rfl | rfl; exact .inl rfl; exact .inr (.inr rfl)))⟩
    · rw [h1]
      go_wp2_with fail
      refine (fullest_any _ r bf bz cap p S _ _ hR1 hB).mono ?_
      rintro e w2' ⟨rfl, hE2'⟩
      have hR2' := hR1.keep0 hE2'
      rw [h2]
      go_wp2_with fail
      refine (run_any _ r bf bz cap p S 1 hR2' hB (by omega) (by omega)).mono ?_
      rintro e w3' ⟨rfl, hE3'⟩
      have hR3' := hR2'.keep0 hE3'
      rw [h3]
      have hE := (hE1.trans hE2').trans hE3'
      have hRW := hR3'
      rename World => W
      clear h1 h2 h3 hE1 hR1 hE2' hR2' hE3' hR3'
      obtain ⟨q1, q2, q3⟩ := hRW.sc f hf
      have qf1 := hRW.sf (f * 3)
      have qf2 := hRW.sf (f * 3 + 1)
      have qf3 := hRW.sf (f * 3 + 2)
      have hr := hRW.c1
      go_wp2
      obtain ⟨hE2, hR2⟩ := fin W hE hRW
      have hsz := hE.size
      generalize ((W.setCell ⟨bf, f * 3, none⟩ (.bool true)).setCell ⟨bf, f * 3 + 1, none⟩ (.int .i64 c)).setCell ⟨bf, f * 3 + 2, none⟩ (.int .i64 (1 + worker % S.heaps)) = W2 at hE2 hR2 ⊢
      clear q1 q2 q3 qf1 qf2 qf3 hr fin hE hRW
      have hB' : Bd (S.setSup f ⟨true, c, 1 + worker % S.heaps⟩) := ⟨hB.h1, hB.h4, hB.s1, hB.s4, by rw [Ti.len_setSup]; exact hB.f16, hB.b1024, by rw [Ti.len_setSup]; exact hB.bz, hB.at0⟩
      go_loop [14] (fun t => ∃ m : Nat, m ≤ n ∧ t = .int .i64 (64 * f + m * Ti.width c)) (fun t => (64 * f + n * Ti.width c - intOf t).toNat)
      case atStart => exact ⟨0, Nat.zero_le _, by simp⟩
      case round =>
        obtain ⟨m, hm, rfl⟩ := hrel
        have hmw : (m : Int) * Ti.width c ≤ n * Ti.width c := Int.mul_le_mul_of_nonneg_right (by omega) (by omega)
        have hmw0 : 0 ≤ (m : Int) * Ti.width c := Int.mul_nonneg (by omega) (by omega)
        go_wp2_with fail
        refine (at_any _ r bf bz cap p (S.setSup f ⟨true, c, 1 + worker % S.heaps⟩) _ hR2 hB').mono ?_
        rintro e w' ⟨rfl, rfl⟩
        have hbl : (S.setSup f ⟨true, c, 1 + worker % S.heaps⟩).blocks = S.blocks := rfl
        rw [hbl]
        clear hbl
        by_cases hlt : m < n
        · have h5 := hn2 m hlt
          have hw32 : Ti.width c ≤ 64 := by omega
          have hst : Hid (64 * (f : Int) + ((m + 1 : Nat) : Int) * Ti.width c = 64 * f + m * Ti.width c + Ti.width c) := by
            show _ = _
            rw [show ((m + 1 : Nat) : Int) = (m : Int) + 1 by omega, Int.add_mul, Int.one_mul]; omega
          go_wp2_with (go_at_call 89; refine (width_any _ _).mono ?_; rintro e w' ⟨rfl, rfl⟩)
          go_round
          case rel => exact ⟨m + 1, by omega, by rw [hst.out]⟩
          case measure =>
            have : ((m : Int) + 1) * Ti.width c ≤ n * Ti.width c := Int.mul_le_mul_of_nonneg_right (by omega) (by omega)
            rw [Int.add_mul, Int.one_mul] at this
            simp [intOf]; omega
        · have e : m = n := by omega
          subst e
          have h5 : ¬ 0 ≤ Ti.atI S.blocks (64 * f + m * Ti.width c) := by omega
          go_wp2_with fail
          refine (put_any _ r bf bz cap p (S.setSup f ⟨true, c, 1 + worker % S.heaps⟩) (64 * f + m * Ti.width c) size hR2 hB' hA (by omega) (by omega) (by omega) (by show _ ≤ (S.bytes.length : Int); omega)).mono ?_
          rintro e w9 ⟨rfl, p', cap', hR9, hp9, hE9⟩
          have hsz9 := hE2.size
          go_wp2
          go_ret2
          refine ⟨by rw [Heq.out]; rfl, ?_⟩
          rw [Heq.out]
          exact ⟨p', cap', hR9, Apart4.new hR2 hA hp9, (.inr fun x hx => by have := hp9 x hx; omega), hE2.trans (hE9.mono (fun k _ hk => by rcases hk with rfl | rfl; exact .inl rfl; exact .inr (.inr rfl)))⟩
end Go.Proofs.YtbagfepdmmfegaaDoor
