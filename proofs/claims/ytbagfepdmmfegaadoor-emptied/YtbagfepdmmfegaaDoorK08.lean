import Derived.Test.YtbagfepdmmfegaaDoorK07
import Derived.Deep.RegionHeld3
set_option linter.unusedVariables false
set_option linter.unusedSimpArgs false
namespace Go.Proofs.YtbagfepdmmfegaaDoor
open Go.RowKit Go.Shelf

set_option maxRecDepth 100000 in
set_option maxHeartbeats 4000000 in
theorem fuller_any (W : World) (m bf bz bx : Nat) (S : Ti.St) (a b : Nat) (hP : PrAt W m bf bz S) (h16 : S.sups.length ≤ 16) (ha : a < S.sups.length) (hb : b < S.sups.length) (hx : W.heap[bx]? = some (.cells #[.pointer (some ⟨m, 0, none⟩)] 69 (0, 0))) :
    Calls Tryd.prog 112 #[.int .i64 (a : Int), .int .i64 (b : Int), .pointer (some ⟨bx, 0, none⟩)] W fun e w' => e = .returned (.bool (decide (posTo (slotOf S b) 8 < posTo (slotOf S a) 8))) ∧ Ext none1 W w' := by
  have hx0 : W.cell? ⟨bx, 0, none⟩ = some (.pointer (some ⟨m, 0, none⟩)) := by rw [cell_of hx]; rfl
  have hx1 := lt_of_heap hx
  have y2 := hP.c2
  have hm1 := lt_of_heap hP.hd
  obtain ⟨q0, q1, q2, q3, q4, q5, q6, q7, q8, q9, q10⟩ := hP.fc a ha
  obtain ⟨r0, r1, r2, r3, r4, r5, r6, r7, r8, r9, r10⟩ := hP.fc b hb
  obtain ⟨_, hfl, _⟩ := hP.fr
  have hf1 := lt_of_heap hfl
  have hc1 : ∀ (w' : World) (o : Nat), Ext none1 W w' → w'.cell? ⟨bf, o, none⟩ = W.cell? ⟨bf, o, none⟩ := fun w' o h => h.below.cell (p := ⟨bf, o, none⟩) hf1
  have hc2 : ∀ (w' : World) (o : Nat), Ext none1 W w' → w'.cell? ⟨m, o, none⟩ = W.cell? ⟨m, o, none⟩ := fun w' o h => h.below.cell (p := ⟨m, o, none⟩) hm1
  have hc3 : ∀ (w' : World) (o : Nat), Ext none1 W w' → w'.cell? ⟨bx, o, none⟩ = W.cell? ⟨bx, o, none⟩ := fun w' o h => h.below.cell (p := ⟨bx, o, none⟩) hx1
  have ha' : (a : Int) < S.sups.length := by omega
  have hb' : (b : Int) < S.sups.length := by omega
  clear hP hx hfl
  go_enter Tryd.func112, Tryd.ntmps112
  go_wp2
  go_region_held3 (fun w' => Ext none1 W w') (first | exact (Ext.refl _ _).drew | assumption | exact Ext.trans (by assumption) (by assumption))
    (first
      | (go_at_call_of 50 (slotOf S a 0); refine (usedSlots_agg _ _ _ (slotOf S a) _).mono ?_; rintro e w' ⟨rfl, hE⟩)
      | (go_at_call_of 50 (slotOf S b 0); refine (usedSlots_agg _ _ _ (slotOf S b) _).mono ?_; rintro e w' ⟨rfl, hE⟩))
  all_goals go_wp2
  all_goals go_ret
  all_goals exact ⟨rfl, by assumption⟩
set_option maxRecDepth 100000 in
set_option maxHeartbeats 4000000 in
theorem emptier_any (W : World) (m bf bz bx : Nat) (S : Ti.St) (a b : Nat) (hP : PrAt W m bf bz S) (h16 : S.sups.length ≤ 16) (ha : a < S.sups.length) (hb : b < S.sups.length) (hx : W.heap[bx]? = some (.cells #[.pointer (some ⟨m, 0, none⟩)] 69 (0, 0))) :
    Calls Tryd.prog 101 #[.int .i64 (a : Int), .int .i64 (b : Int), .pointer (some ⟨bx, 0, none⟩)] W fun e w' => e = .returned (.bool (decide (posTo (slotOf S a) 8 < posTo (slotOf S b) 8))) ∧ Ext none1 W w' := by
  have hx0 : W.cell? ⟨bx, 0, none⟩ = some (.pointer (some ⟨m, 0, none⟩)) := by rw [cell_of hx]; rfl
  have hx1 := lt_of_heap hx
  have y2 := hP.c2
  have hm1 := lt_of_heap hP.hd
  obtain ⟨q0, q1, q2, q3, q4, q5, q6, q7, q8, q9, q10⟩ := hP.fc a ha
  obtain ⟨r0, r1, r2, r3, r4, r5, r6, r7, r8, r9, r10⟩ := hP.fc b hb
  obtain ⟨_, hfl, _⟩ := hP.fr
  have hf1 := lt_of_heap hfl
  have hc1 : ∀ (w' : World) (o : Nat), Ext none1 W w' → w'.cell? ⟨bf, o, none⟩ = W.cell? ⟨bf, o, none⟩ := fun w' o h => h.below.cell (p := ⟨bf, o, none⟩) hf1
  have hc2 : ∀ (w' : World) (o : Nat), Ext none1 W w' → w'.cell? ⟨m, o, none⟩ = W.cell? ⟨m, o, none⟩ := fun w' o h => h.below.cell (p := ⟨m, o, none⟩) hm1
  have hc3 : ∀ (w' : World) (o : Nat), Ext none1 W w' → w'.cell? ⟨bx, o, none⟩ = W.cell? ⟨bx, o, none⟩ := fun w' o h => h.below.cell (p := ⟨bx, o, none⟩) hx1
  have ha' : (a : Int) < S.sups.length := by omega
  have hb' : (b : Int) < S.sups.length := by omega
  clear hP hx hfl
  go_enter Tryd.func101, Tryd.ntmps101
  go_wp2
  go_region_held3 (fun w' => Ext none1 W w') (first | exact (Ext.refl _ _).drew | assumption | exact Ext.trans (by assumption) (by assumption))
    (first
      | (go_at_call_of 50 (slotOf S a 0); refine (usedSlots_agg _ _ _ (slotOf S a) _).mono ?_; rintro e w' ⟨rfl, hE⟩)
      | (go_at_call_of 50 (slotOf S b 0); refine (usedSlots_agg _ _ _ (slotOf S b) _).mono ?_; rintro e w' ⟨rfl, hE⟩))
  all_goals go_wp2
  all_goals go_ret
  all_goals exact ⟨rfl, by assumption⟩
end Go.Proofs.YtbagfepdmmfegaaDoor

namespace Go.Proofs.YtbagfepdmmfegaaDoor
open Go.RowKit Go.Shelf
attribute [local go_sem] Oper.semAt_some

theorem withRoomMk_any (m : Nat) (h c : Int) (w : World) :
    Calls Tryd.prog 111 #[.pointer (some ⟨m, 0, none⟩), .int .i64 h, .int .i64 c] w fun e w' =>
      e = .returned (.func (.func 113) #[] #[.pointer (some ⟨w.heap.size, 0, none⟩), .pointer (some ⟨w.heap.size + 1, 0, none⟩), .pointer (some ⟨w.heap.size + 2, 0, none⟩)]) ∧
      w' = ((w.alloc (.cells #[.pointer (some ⟨m, 0, none⟩)] 69)).alloc (.cells #[.int .i64 h] 3)).alloc (.cells #[.int .i64 c] 3) := by
  go_enter Tryd.func111, Tryd.ntmps111
  go_wp2
  go_ret
  exact ⟨rfl, rfl⟩

/-- which of two is the fuller -/
def fuller (S : Ti.St) (h c : Int) (x y : Mi S h c) : Bool := decide (posTo (slotOf S y.1) 8 < posTo (slotOf S x.1) 8)
def emptier (S : Ti.St) (h c : Int) (x y : Mi S h c) : Bool := decide (posTo (slotOf S x.1) 8 < posTo (slotOf S y.1) 8)

theorem mi_is {S : Ti.St} {h c : Int} {i : Nat} (hm : S.mine h c i = true) : (S.sup i).is = true ∧ (S.sup i).heap = h ∧ (S.sup i).cls = c := by
  simp [Ti.St.mine] at hm; exact ⟨hm.1.1, hm.1.2, hm.2⟩

theorem room_eq (S : Ti.St) (hI : Ti.Inv0 S) (h c : Int) (i : Nat) (hm : S.mine h c i = true) : room S i = decide ((S.used i : Int) < Ti.slots c) := by
  obtain ⟨h1, h2, h3⟩ := mi_is hm
  have h8 := Ti.used_8 S hI i h1
  unfold room pc
  rw [usedSlots_used S hI i h1, if_pos h1]
  rw [h3] at h8 ⊢
  by_cases e : (S.used i : Int) = Ti.slots c
  · simp [e]
  · have : (S.used i : Int) < Ti.slots c := by omega
    simp [e, this]

theorem best_fullest (S : Ti.St) (hI : Ti.Inv0 S) (h c : Int) (k : Nat) (hk : k ≤ S.sups.length) :
    match bestOf (fuller S h c) (roomy S h c (mines S h c k)) with
    | none => S.fullTo h c k = (-1, -1)
    | some x => S.fullTo h c k = ((x.1 : Int), (S.used x.1 : Int)) := by
  induction k with
  | zero => rfl
  | succ k ih =>
    have ih := ih (by omega)
    simp only [mines, Ti.St.fullTo]
    by_cases hm : S.mine h c k = true
    · rw [dif_pos ⟨by omega, hm⟩]
      have hr := room_eq S hI h c k hm
      have hu := usedSlots_used S hI k (mi_is hm).1
      by_cases hs : (S.used k : Int) < Ti.slots c
      · rw [roomy_yes _ _ _ _ _ (by rw [hr]; simp [hs]), bestOf_snoc]
        cases hb : bestOf (fuller S h c) (roomy S h c (mines S h c k)) with
        | none =>
          rw [hb] at ih
          simp only [bstep, ih]
          rw [if_pos ⟨hm, hs, by omega⟩]
        | some b =>
          rw [hb] at ih
          have hub := usedSlots_used S hI b.1 (mi_is b.2.2).1
          simp only [bstep, ih, fuller, hu, hub]
          by_cases hlt : S.used b.1 < S.used k
          · simp only [hlt, decide_true, if_true]
            rw [if_pos ⟨hm, hs, by omega⟩]
          · simp only [hlt, decide_false, Bool.false_eq_true, if_false]
            rw [if_neg (fun x => hlt (by have := x.2.2; omega))]
      · rw [roomy_no _ _ _ _ _ (by rw [hr]; simp [hs]), if_neg (fun x => hs x.2.1)]
        exact ih
    · rw [dif_neg (fun x => hm x.2), if_neg (fun x => hm x.1)]
      exact ih

theorem best_emptiest (S : Ti.St) (hI : Ti.Inv0 S) (h c : Int) (k : Nat) (hk : k ≤ S.sups.length) :
    match bestOf (emptier S h c) (mines S h c k) with
    | none => S.emptyTo h c k = (-1, 64)
    | some x => S.emptyTo h c k = ((x.1 : Int), (S.used x.1 : Int)) := by
  induction k with
  | zero => rfl
  | succ k ih =>
    have ih := ih (by omega)
    simp only [mines, Ti.St.emptyTo]
    by_cases hm : S.mine h c k = true
    · rw [dif_pos ⟨by omega, hm⟩]
      have hu := usedSlots_used S hI k (mi_is hm).1
      have h8 := Ti.used_8 S hI k (mi_is hm).1
      have hw := Ti.width_slots (S.sup k).cls
      rw [bestOf_snoc]
      cases hb : bestOf (emptier S h c) (mines S h c k) with
      | none =>
        rw [hb] at ih
        simp only [bstep, ih]
        rw [if_pos ⟨hm, by omega⟩]
      | some b =>
        rw [hb] at ih
        have hub := usedSlots_used S hI b.1 (mi_is b.2.2).1
        simp only [bstep, ih, emptier, hu, hub]
        by_cases hlt : S.used k < S.used b.1
        · simp only [hlt, decide_true, if_true]
          rw [if_pos ⟨hm, by omega⟩]
        · simp only [hlt, decide_false, Bool.false_eq_true, if_false]
          rw [if_neg (fun x => hlt (by have := x.2; omega))]
    · rw [dif_neg (fun x => hm x.2), if_neg (fun x => hm x.1)]
      exact ih

/-- a frame's number, or 0 -/
def orZ (v : Int) : Int := if 0 ≤ v then v else 0

theorem best_val (S : Ti.St) (hI : Ti.Inv0 S) (h c : Int) : bval (fun x : Mi S h c => (x.1 : Int)) (bestOf (fuller S h c) (roomy S h c (mines S h c S.sups.length))) = orZ (S.fullest h c) ∧
    (bestOf (fuller S h c) (roomy S h c (mines S h c S.sups.length))).isSome = decide (0 ≤ S.fullest h c) := by
  have := best_fullest S hI h c S.sups.length (Nat.le_refl _)
  unfold Ti.St.fullest orZ
  cases hb : bestOf (fuller S h c) (roomy S h c (mines S h c S.sups.length)) with
  | none => rw [hb] at this; simp [this, bval]
  | some x => rw [hb] at this; simp [this, bval]
theorem best_val2 (S : Ti.St) (hI : Ti.Inv0 S) (h c : Int) : bval (fun x : Mi S h c => (x.1 : Int)) (bestOf (emptier S h c) (mines S h c S.sups.length)) = orZ (S.emptiest h c) ∧
    (bestOf (emptier S h c) (mines S h c S.sups.length)).isSome = decide (0 ≤ S.emptiest h c) := by
  have := best_emptiest S hI h c S.sups.length (Nat.le_refl _)
  unfold Ti.St.emptiest orZ
  cases hb : bestOf (emptier S h c) (mines S h c S.sups.length) with
  | none => rw [hb] at this; simp [this, bval]
  | some x => rw [hb] at this; simp [this, bval]

set_option maxRecDepth 100000 in
set_option maxHeartbeats 4000000 in
theorem fullestWithRoom_any (w : World) (m bf bz : Nat) (S : Ti.St) (h c : Int) (hP : PrAt w m bf bz S) (hI : Ti.Inv0 S) :
    Calls Tryd.prog 107 #[.pointer (some ⟨m, 0, none⟩), .int .i64 h, .int .i64 c] w fun e w' =>
      e = .returned (.tuple #[.int .i64 (orZ (S.fullest h c)), .bool (decide (0 ≤ S.fullest h c))]) ∧ Ext none1 w w' := by
  go_enter Tryd.func107, Tryd.ntmps107
  go_wp2_with (go_at_call 111; refine (withRoomMk_any _ _ _ _).mono ?_; rintro e w' ⟨rfl, rfl⟩)
  have hb3 := heap3 (w.alloc (.cells #[.pointer (some ⟨m, 0, none⟩)] 69)) (.cells #[.pointer (some ⟨m, 0, none⟩)] 69) (.cells #[.int .i64 h] 3) (.cells #[.int .i64 c] 3)
  have hEB : Ext none1 (w.alloc (.cells #[.pointer (some ⟨m, 0, none⟩)] 69)) ((((w.alloc (.cells #[.pointer (some ⟨m, 0, none⟩)] 69)).alloc (.cells #[.pointer (some ⟨m, 0, none⟩)] 69)).alloc (.cells #[.int .i64 h] 3)).alloc (.cells #[.int .i64 c] 3)) := (((Ext.refl _ _).alloc _).alloc _).alloc _
  have g0 := hEB.keep (heap_alloc_new w _) (fun x => x)
  have hE1 : Ext none1 w ((((w.alloc (.cells #[.pointer (some ⟨m, 0, none⟩)] 69)).alloc (.cells #[.pointer (some ⟨m, 0, none⟩)] 69)).alloc (.cells #[.int .i64 h] 3)).alloc (.cells #[.int .i64 c] 3)) := ((((Ext.refl _ _).alloc _).alloc _).alloc _).alloc _
  simp only [World.size_alloc] at hb3
  clear hEB
  generalize ((((w.alloc (.cells #[.pointer (some ⟨m, 0, none⟩)] 69)).alloc (.cells #[.pointer (some ⟨m, 0, none⟩)] 69)).alloc (.cells #[.int .i64 h] 3)).alloc (.cells #[.int .i64 c] 3)) = w1 at *
  have hP1 := hP.keep0 hE1
  have v0 := lt_of_heap g0
  have v1 := lt_of_heap hb3.1
  have v2 := lt_of_heap hb3.2.1
  have v3 := lt_of_heap hb3.2.2
  have v4 := lt_of_heap hP1.hd
  obtain ⟨_, v5, _⟩ := hP1.fr
  have v5 := lt_of_heap v5
  obtain ⟨_, v6, _⟩ := hP1.bytes
  have v6 := lt_of_heap v6
  have hbest := (callsIn_wide (n := 9)).1 (best_in Fence.wide 9 Wide.wide (by omega) w1 113 112 #[.pointer (some ⟨w.heap.size + 1, 0, none⟩), .pointer (some ⟨w.heap.size + 1 + 1, 0, none⟩), .pointer (some ⟨w.heap.size + 1 + 2, 0, none⟩)] #[.pointer (some ⟨w.heap.size, 0, none⟩)]
    (fun x : Mi S h c => (x.1 : Int)) (roomy S h c (mines S h c S.sups.length)) (fun _ => True) (fun _ _ => True) (fuller S h c) (enters_of Tryd.func113 (by kernel_rfl) rfl) (enters_of Tryd.func112 (by kernel_rfl) rfl)
    (fun w2 hB hs => by
      have hS : Stay (fun _ => True) w1 w2 := fun k o _ ho => (hB.block k (lt_of_heap ho)).trans ho
      refine withRoom_J Fence.wide 8 Wide.wide (by omega) (two (w1.heap.size + 1) (w1.heap.size + 2)) m bf bz (w.heap.size + 1) (w.heap.size + 1 + 1) (w.heap.size + 1 + 2) S h c hI w2 (by rintro k (rfl | rfl) <;> omega) ?_ ?_ ?_ ?_ ?_ ?_ (hS _ _ trivial hb3.1) (hS _ _ trivial hb3.2.1) (hS _ _ trivial hb3.2.2) (hP1.stay hS trivial trivial trivial)
      all_goals rintro (e | e) <;> omega)
    (fun x y W k hB => by
      have hS : Stay (fun _ => True) w1 W := fun k o _ ho => (hB.block k (lt_of_heap ho)).trans ho
      exact Wide.wide.calls (fuller_any W m bf bz w.heap.size S x.1 y.1 (hP1.stay hS trivial trivial trivial) hI.f16 x.2.1 y.2.1 (hS _ _ trivial g0))))
  rw [(best_val S hI h c).1, (best_val S hI h c).2] at hbest
  refine hbest.mono ?_
  rintro e w9 ⟨rfl, hE9⟩
  clear hbest
  go_wp2
  go_ret2
  exact ⟨rfl, hE1.trans hE9⟩
end Go.Proofs.YtbagfepdmmfegaaDoor

namespace Go.Proofs.YtbagfepdmmfegaaDoor
open Go.RowKit Go.Shelf

/-- what the program calls a free frame is one -/
theorem freeOk (S : Ti.St) (f : Nat) : S.free f = true ↔ pk S f = 0 := by
  unfold Ti.St.free pk
  cases (S.sup f).is <;> cases Ti.coverTo S.blocks f S.blocks.length <;> simp

def lowB {S : Ti.St} (x y : Fr S) : Bool := decide ((x.1 : Int) < (y.1 : Int))

theorem frs_low (S : Ti.St) (k : Nat) (hk : k ≤ S.sups.length) :
    match bestOf lowB (frs S k) with
    | none => ∀ j, j < k → pk S j ≠ 0
    | some x => x.1 < k ∧ ∀ j, j < x.1 → pk S j ≠ 0 := by
  induction k with
  | zero => intro j hj; omega
  | succ k ih =>
    have ih := ih (by omega)
    simp only [frs]
    by_cases hm : pk S k = 0
    · rw [dif_pos ⟨by omega, hm⟩, bestOf_snoc]
      cases hb : bestOf lowB (frs S k) with
      | none => rw [hb] at ih; exact ⟨Nat.lt_succ_self _, ih⟩
      | some b =>
        rw [hb] at ih
        have : ¬ ((k : Int) < (b.1 : Int)) := by have := ih.1; omega
        simp only [bstep, lowB, this, decide_false, Bool.false_eq_true, if_false]
        exact ⟨by have := ih.1; omega, ih.2⟩
    · rw [dif_neg (fun x => hm x.2)]
      cases hb : bestOf lowB (frs S k) with
      | none =>
        rw [hb] at ih
        intro j hj
        by_cases e : j = k
        · rw [e]; exact hm
        · exact ih j (by omega)
      | some b => rw [hb] at ih; exact ⟨by have := ih.1; omega, ih.2⟩

theorem allFree_one (S : Ti.St) (f : Nat) : S.allFree f 1 = S.free f := by simp [Ti.St.allFree]

theorem frs_run (S : Ti.St) : bval (fun x : Fr S => (x.1 : Int)) (bestOf lowB (frs S S.sups.length)) = orZ (S.run 1) ∧ (bestOf lowB (frs S S.sups.length)).isSome = decide (0 ≤ S.run 1) := by
  have hl := frs_low S S.sups.length (Nat.le_refl _)
  cases hb : bestOf lowB (frs S S.sups.length) with
  | none =>
    rw [hb] at hl
    have : S.run 1 = -1 := by
      unfold Ti.St.run
      apply runTo_skip
      intro j hj
      rw [allFree_one]
      cases hf : S.free j
      · rfl
      · exact absurd ((freeOk S j).1 hf) (hl j (by omega))
    rw [this]; simp [bval, orZ]
  | some x =>
    rw [hb] at hl
    have : S.run 1 = (x.1 : Int) := by
      unfold Ti.St.run
      apply runTo_hit
      · intro j hj
        rw [allFree_one]
        cases hf : S.free j
        · rfl
        · exact absurd ((freeOk S j).1 hf) (hl.2 j hj)
      · rw [allFree_one]; exact (freeOk S _).2 x.2.2
      · have := x.2.1; omega
    rw [this]; simp [bval, orZ]

theorem freeFramesMk_any (m : Nat) (w : World) :
    Calls Tryd.prog 48 #[.pointer (some ⟨m, 0, none⟩)] w fun e w' =>
      e = .returned (.func (.func 73) #[] #[.pointer (some ⟨w.heap.size, 0, none⟩)]) ∧ w' = w.alloc (.cells #[.pointer (some ⟨m, 0, none⟩)] 69) :=
  (callsIn_wide (n := 9)).1 (freeFrames_in Fence.wide 9 trivial rfl m w)

/-- 'pick.Best(m.freeFrames(), lower)', the iterator made -/
theorem lowestFree_any (w : World) (m bf bz bm : Nat) (S : Ti.St) (hP : PrAt w m bf bz S) (h16 : S.sups.length ≤ 16) (hbm : w.heap[bm]? = some (.cells #[.pointer (some ⟨m, 0, none⟩)] 69 (0, 0))) :
    Calls Tryd.prog 94 #[.func (.func 73) #[] #[.pointer (some ⟨bm, 0, none⟩)], .func (.func 96) #[] #[]] w fun e w' =>
      e = .returned (.tuple #[.int .i64 (orZ (S.run 1)), .bool (decide (0 ≤ S.run 1))]) ∧ Ext none1 w w' := by
  have v1 := lt_of_heap hbm
  have v4 := lt_of_heap hP.hd
  obtain ⟨_, v5, _⟩ := hP.fr
  have v5 := lt_of_heap v5
  obtain ⟨_, v6, _⟩ := hP.bytes
  have v6 := lt_of_heap v6
  have hbest := (callsIn_wide (n := 9)).1 (best_in Fence.wide 9 Wide.wide (by omega) w 73 96 #[.pointer (some ⟨bm, 0, none⟩)] #[]
    (fun x : Fr S => (x.1 : Int)) (frs S S.sups.length) (fun pre => ∃ k, k ≤ S.sups.length ∧ pre = frs S k) (fun pre _ => pre.length < S.sups.length) lowB (enters_of Tryd.func73 (by kernel_rfl) rfl) (enters_of Tryd.func96 (by kernel_rfl) rfl)
    (fun w2 hB hs => by
      have hS : Stay (fun _ => True) w w2 := fun k o _ ho => (hB.block k (lt_of_heap ho)).trans ho
      refine freeFrames_J Fence.wide 8 trivial rfl (by omega) (two (w.heap.size + 1) (w.heap.size + 2)) m bf bz bm S h16 w2 ?_ ?_ ?_ ?_ (hS _ _ trivial hbm) (hP.stay hS trivial trivial trivial)
      all_goals rintro (e | e) <;> omega)
    (fun x y W k hB => Wide.wide.calls ((lower_any _ _ W).mono (fun e W' h => ⟨h.1, by rw [← h.2]; exact Ext.refl _ _⟩))))
  rw [(frs_run S).1, (frs_run S).2] at hbest
  exact hbest

/-! ### what the program's memory is behind a change of a superblock -/
theorem PrAt.setHeap {w : World} {m bf bz : Nat} {S : Ti.St} (h : PrAt w m bf bz S) (hne : m ≠ bf ∧ bf ≠ bz) (f : Nat) (hf : f < S.sups.length) (his : (S.sup f).is = true) (v : Int) :
    PrAt (w.setCell ⟨bf, f * 11 + 1, none⟩ (.int .i64 v)) m bf bz (S.setSup f { S.sup f with heap := v }) := by
  have hsup := fun k => Ti.sup_setSup S f k { S.sup f with heap := v } hf
  have hlen := Ti.len_setSup S f { S.sup f with heap := v }
  refine ⟨?_, ?_, ?_⟩
  · rw [heap_set_ne hne.1, hlen]; exact h.hd
  · obtain ⟨c, q1, q2, q3⟩ := h.fr
    refine ⟨_, heap_set q1 _ _, by rw [hlen]; simpa using q2, fun k hk => ?_⟩
    rw [hlen] at hk
    obtain ⟨a1, a2, a3, a4⟩ := q3 k hk
    have e1 : pk (S.setSup f { S.sup f with heap := v }) k = pk S k := by
      unfold pk; rw [hsup]; by_cases e : k = f
      · subst e; rw [if_pos rfl]; rfl
      · rw [if_neg e]; rfl
    have e3 : pc (S.setSup f { S.sup f with heap := v }) k = pc S k := by
      unfold pc; rw [hsup]; by_cases e : k = f
      · subst e; simp
      · simp [e]
    have e4 : ∀ j, slotOf (S.setSup f { S.sup f with heap := v }) k j = slotOf S k j := by
      intro j; unfold slotOf; rw [hsup]; by_cases e : k = f
      · subst e; simp [Ti.St.setSup]
      · simp [e, Ti.St.setSup]
    rw [e1, e3]
    refine ⟨?_, ?_, ?_, fun j hj => ?_⟩
    · rw [Array.getElem?_setIfInBounds_ne (by omega)]; exact a1
    · by_cases e : k = f
      · subst e
        have : ph (S.setSup k { S.sup k with heap := v }) k = v := by unfold ph; rw [hsup]; simp [his]
        rw [this]
        simp [show k * 11 + 1 < c.size by omega]
      · have : ph (S.setSup f { S.sup f with heap := v }) k = ph S k := by unfold ph; rw [hsup]; simp [e]
        rw [this, Array.getElem?_setIfInBounds_ne (by omega)]; exact a2
    · rw [Array.getElem?_setIfInBounds_ne (by omega)]; exact a3
    · rw [e4, Array.getElem?_setIfInBounds_ne (by omega)]; exact a4 j hj
  · obtain ⟨c, q1, q2, q3⟩ := h.bytes
    exact ⟨c, (heap_set_ne hne.2.symm _ _).trans q1, q2, q3⟩

/-- the eleven cells of a frame written -/
def putFrame (w : World) (bf f : Nat) (k h c : Int) : World :=
  ((((((((((w.setCell ⟨bf, f * 11, none⟩ (.int .i64 k)).setCell ⟨bf, f * 11 + 1, none⟩ (.int .i64 h)).setCell ⟨bf, f * 11 + 2, none⟩ (.int .i64 c)).setCell ⟨bf, f * 11 + 3, none⟩ (.int .i64 0)).setCell ⟨bf, f * 11 + 4, none⟩ (.int .i64 0)).setCell ⟨bf, f * 11 + 5, none⟩ (.int .i64 0)).setCell
    ⟨bf, f * 11 + 6, none⟩ (.int .i64 0)).setCell ⟨bf, f * 11 + 7, none⟩ (.int .i64 0)).setCell ⟨bf, f * 11 + 8, none⟩ (.int .i64 0)).setCell ⟨bf, f * 11 + 9, none⟩ (.int .i64 0)).setCell ⟨bf, f * 11 + 10, none⟩ (.int .i64 0)
end Go.Proofs.YtbagfepdmmfegaaDoor

namespace Go.Proofs.YtbagfepdmmfegaaDoor
open Go.RowKit Go.Shelf

theorem heap_putFrame {w : World} {bf f : Nat} {c : Array Value} {T : TypeId} (h : w.heap[bf]? = some (.cells c T (0, 0))) (k hp cl : Int) : (putFrame w bf f k hp cl).heap[bf]? = some (.cells ((((((((((((c.setIfInBounds (f * 11) (.int .i64 k)).setIfInBounds (f * 11 + 1) (.int .i64 hp)).setIfInBounds (f * 11 + 2) (.int .i64 cl)).setIfInBounds (f * 11 + 3) (.int .i64 0)).setIfInBounds (f * 11 + 4) (.int .i64 0)).setIfInBounds (f * 11 + 5) (.int .i64 0)).setIfInBounds (f * 11 + 6) (.int .i64 0)).setIfInBounds (f * 11 + 7) (.int .i64 0)).setIfInBounds (f * 11 + 8) (.int .i64 0)).setIfInBounds (f * 11 + 9) (.int .i64 0)).setIfInBounds (f * 11 + 10) (.int .i64 0))) T (0, 0)) :=
  heap_set (heap_set (heap_set (heap_set (heap_set (heap_set (heap_set (heap_set (heap_set (heap_set (heap_set h _ _) _ _) _ _) _ _) _ _) _ _) _ _) _ _) _ _) _ _) _ _
theorem heap_putFrame_ne {w : World} {bf f b : Nat} (hb : b ≠ bf) (k hp cl : Int) : (putFrame w bf f k hp cl).heap[b]? = w.heap[b]? := by
  unfold putFrame
  rw [heap_set_ne hb, heap_set_ne hb, heap_set_ne hb, heap_set_ne hb, heap_set_ne hb, heap_set_ne hb, heap_set_ne hb, heap_set_ne hb, heap_set_ne hb, heap_set_ne hb, heap_set_ne hb]
theorem ext_putFrame {X : Nat → Prop} {A w : World} (h : Ext X A w) {bf f : Nat} (hx : X bf) (k hp cl : Int) : Ext X A (putFrame w bf f k hp cl) := by
  unfold putFrame
  exact ((((((((((h.setCell ⟨bf, _, none⟩ (.inl hx) _).setCell ⟨bf, _, none⟩ (.inl hx) _).setCell ⟨bf, _, none⟩ (.inl hx) _).setCell ⟨bf, _, none⟩ (.inl hx) _).setCell ⟨bf, _, none⟩ (.inl hx) _).setCell ⟨bf, _, none⟩ (.inl hx) _).setCell ⟨bf, _, none⟩ (.inl hx) _).setCell ⟨bf, _, none⟩ (.inl hx) _).setCell ⟨bf, _, none⟩ (.inl hx) _).setCell ⟨bf, _, none⟩ (.inl hx) _).setCell ⟨bf, _, none⟩ (.inl hx) _

theorem PrAt.putFrame {w : World} {m bf bz : Nat} {S : Ti.St} (h : PrAt w m bf bz S) (hne : m ≠ bf ∧ bf ≠ bz) (f : Nat) (hf : f < S.sups.length) (s : Ti.Sup) (k hp cl : Int)
    (hk : k = pk (S.setSup f s) f) (hh : hp = if s.is = true then s.heap else 0) (hc : cl = if s.is = true then s.cls else 0) (hz : ∀ j, j < 8 → slotOf (S.setSup f s) f j = 0) :
    PrAt (putFrame w bf f k hp cl) m bf bz (S.setSup f s) := by
  have hsup := fun j => Ti.sup_setSup S f j s hf
  have hlen := Ti.len_setSup S f s
  refine ⟨?_, ?_, ?_⟩
  · rw [heap_putFrame_ne hne.1, hlen]; exact h.hd
  · obtain ⟨c, q1, q2, q3⟩ := h.fr
    refine ⟨_, heap_putFrame q1 _ _ _, by rw [hlen]; simpa using q2, fun i hi => ?_⟩
    rw [hlen] at hi
    by_cases e : i = f
    · subst e
      have e1 : pk (S.setSup i s) i = k := hk.symm
      have e2 : ph (S.setSup i s) i = hp := by unfold ph; rw [hsup, if_pos rfl, hh]
      have e3 : pc (S.setSup i s) i = cl := by unfold pc; rw [hsup, if_pos rfl, hc]
      rw [e1, e2, e3]
      refine ⟨?_, ?_, ?_, fun j hj => ?_⟩
      · repeat rw [Array.getElem?_setIfInBounds_ne (by omega)]
        simp [show i * 11 < c.size by omega]
      · repeat rw [Array.getElem?_setIfInBounds_ne (by omega)]
        simp [show i * 11 + 1 < c.size by omega]
      · repeat rw [Array.getElem?_setIfInBounds_ne (by omega)]
        simp [show i * 11 + 2 < c.size by omega]
      · rw [hz j hj]
        match j, hj with
        | 0, _ =>
          repeat rw [Array.getElem?_setIfInBounds_ne (by omega)]
          simp [show i * 11 + 3 < c.size by omega]
        | 1, _ =>
          repeat rw [Array.getElem?_setIfInBounds_ne (by omega)]
          simp [show i * 11 + 4 < c.size by omega]
        | 2, _ =>
          repeat rw [Array.getElem?_setIfInBounds_ne (by omega)]
          simp [show i * 11 + 5 < c.size by omega]
        | 3, _ =>
          repeat rw [Array.getElem?_setIfInBounds_ne (by omega)]
          simp [show i * 11 + 6 < c.size by omega]
        | 4, _ =>
          repeat rw [Array.getElem?_setIfInBounds_ne (by omega)]
          simp [show i * 11 + 7 < c.size by omega]
        | 5, _ =>
          repeat rw [Array.getElem?_setIfInBounds_ne (by omega)]
          simp [show i * 11 + 8 < c.size by omega]
        | 6, _ =>
          repeat rw [Array.getElem?_setIfInBounds_ne (by omega)]
          simp [show i * 11 + 9 < c.size by omega]
        | 7, _ =>
          simp [show i * 11 + 10 < c.size by omega]
    · have e0 : (S.setSup f s).sup i = S.sup i := by rw [hsup, if_neg e]
      have e1 : pk (S.setSup f s) i = pk S i := by unfold pk; rw [e0]; rfl
      have e2 : ph (S.setSup f s) i = ph S i := by unfold ph; rw [e0]
      have e3 : pc (S.setSup f s) i = pc S i := by unfold pc; rw [e0]
      have e4 : ∀ j, slotOf (S.setSup f s) i j = slotOf S i j := by intro j; unfold slotOf; rw [e0]; rfl
      obtain ⟨a1, a2, a3, a4⟩ := q3 i hi
      rw [e1, e2, e3]
      refine ⟨?_, ?_, ?_, fun j hj => ?_⟩
      · repeat rw [Array.getElem?_setIfInBounds_ne (by omega)]
        exact a1
      · repeat rw [Array.getElem?_setIfInBounds_ne (by omega)]
        exact a2
      · repeat rw [Array.getElem?_setIfInBounds_ne (by omega)]
        exact a3
      · rw [e4]
        repeat rw [Array.getElem?_setIfInBounds_ne (by omega)]
        exact a4 j hj
  · obtain ⟨c, q1, q2, q3⟩ := h.bytes
    exact ⟨c, (heap_putFrame_ne hne.2.symm _ _ _).trans q1, q2, q3⟩

theorem sizeAt_none (bs : List (Int × Int)) (a : Int) (h : ∀ b ∈ bs, b.1 ≠ a) : sizeAt bs a = 0 := by
  unfold sizeAt
  rw [if_neg]
  intro h0
  obtain ⟨b, hb, e⟩ := (Ti.atI_nn bs a).1 h0
  exact h b hb e
/-- no block lies in a free frame -/
theorem slot_free (S : Ti.St) (hI : Ti.Inv0 S) (f : Nat) (hf : f < S.sups.length) (hfr : S.free f = true) (s : Ti.Sup) (j : Nat) : slotOf (S.setSup f s) f j = 0 := by
  unfold slotOf
  rw [Ti.sup_setSup S f f s hf, if_pos rfl]
  split
  · rename_i h
    unfold sizeAt
    rw [if_neg]
    intro h0
    obtain ⟨b, hb, e⟩ := (Ti.atI_nn _ _).1 h0
    have hb' : b ∈ S.blocks := hb
    have hn := Ti.free_none S hI f hfr b hb'
    have hw := Ti.width_slots s.cls
    obtain ⟨b1, b2, b3, b4⟩ := Ti.slot_bounds s.cls j h.2
    omega
  · split
    · apply sizeAt_none
      intro b hb e
      have := Ti.free_none S hI f hfr b hb
      omega
    · rfl
theorem pk_sup (S : Ti.St) (f : Nat) (hf : f < S.sups.length) (c h : Int) : 1 = pk (S.setSup f ⟨true, c, h⟩) f := by
  unfold pk
  rw [Ti.sup_setSup S f f _ hf, if_pos rfl]
  rfl

theorem PrAt.ff {w : World} {m bf bz : Nat} {S : Ti.St} (h : PrAt w m bf bz S) (o : Nat) : w.frozen? ⟨bf, o, none⟩ = false := by
  obtain ⟨c, h1, _⟩ := h.fr
  exact frozen_of h1 o

set_option maxRecDepth 100000 in
set_option maxHeartbeats 4000000 in
theorem superblockFor_no (w : World) (m bf bz : Nat) (S : Ti.St) (h c : Int) (hP : PrAt w m bf bz S) (hI : Ti.Inv0 S) (hpl : S.place h c = -1) :
    Calls Tryd.prog 98 #[.pointer (some ⟨m, 0, none⟩), .int .i64 h, .int .i64 c] w fun e w' => e = .returned (.tuple #[.int .i64 0, .bool false]) ∧ Ext none1 w w' := by
  have h16 := hI.f16
  have hw := place_ways S h c _ hpl
  have h1 : S.fullest h c = -1 ∧ S.fullest 0 c = -1 ∧ S.run 1 = -1 := by omega
  have f1 := fullestWithRoom_any w m bf bz S h c hP hI
  rw [h1.1] at f1
  go_enter Tryd.func98, Tryd.ntmps98
  have H1 : Hid _ := f1
  clear f1
  go_wp2_with fail
  refine Calls.mono H1.out ?_
  rintro e w1 ⟨rfl, hE1⟩
  have hP1 := hP.keep0 hE1
  have H2 : Hid _ := fullestWithRoom_any w1 m bf bz S 0 c hP1 hI
  rw [h1.2.1] at H2
  go_wp2_with fail
  refine Calls.mono H2.out ?_
  rintro e w2 ⟨rfl, hE2⟩
  have hP2 := hP1.keep0 hE2
  go_wp2_with fail
  refine (freeFramesMk_any m w2).mono ?_
  rintro e w3 ⟨rfl, rfl⟩
  have H3 : Hid _ := lowestFree_any (w2.alloc (.cells #[.pointer (some ⟨m, 0, none⟩)] 69)) m bf bz w2.heap.size S (hP2.keep0 ((Ext.refl _ _).alloc _)) h16 (heap_alloc_new _ _)
  rw [h1.2.2] at H3
  go_wp2_with fail
  refine Calls.mono H3.out ?_
  rintro e w4 ⟨rfl, hE4⟩
  go_wp2
  go_ret2
  exact ⟨rfl, ((hE1.trans hE2).alloc _).trans hE4⟩
end Go.Proofs.YtbagfepdmmfegaaDoor

namespace Go.Proofs.YtbagfepdmmfegaaDoor
open Go.RowKit Go.Shelf

theorem setSup_same (S : Ti.St) (f : Nat) (hf : f < S.sups.length) (s : Ti.Sup) (h : S.sup f = s) : S.setSup f s = S := by
  have e : S.sups.set f s = S.sups := by
    apply List.ext_getElem?
    intro i
    by_cases e : f = i
    · subst e
      rw [List.getElem?_set_self hf]
      unfold Ti.St.sup at h
      rw [List.getElem?_eq_getElem hf] at h ⊢
      simpa using h.symm
    · rw [List.getElem?_set_ne e]
  unfold Ti.St.setSup
  rw [e]

theorem orZ_nn (f : Nat) : orZ (f : Int) = f := by simp [orZ]

set_option maxRecDepth 100000 in
set_option maxHeartbeats 4000000 in
theorem superblockFor_yes (w : World) (m bf bz : Nat) (S : Ti.St) (h c : Int) (f : Nat) (hP : PrAt w m bf bz S) (hne : m ≠ bf ∧ bf ≠ bz) (hI : Ti.Inv0 S) (hf : f < S.sups.length) (hpl : S.place h c = (f : Int)) :
    Calls Tryd.prog 98 #[.pointer (some ⟨m, 0, none⟩), .int .i64 h, .int .i64 c] w fun e w' => e = .returned (.tuple #[.int .i64 (f : Int), .bool true]) ∧ PrAt w' m bf bz (S.setSup f ⟨true, c, h⟩) ∧ Ext (one bf) w w' := by
  have h16 := hI.f16
  have f1 := fullestWithRoom_any w m bf bz S h c hP hI
  have hf' : (f : Int) < S.sups.length := by omega
  rcases place_ways S h c _ hpl with ⟨_, h1⟩ | ⟨_, h1, h2⟩ | ⟨h1, h2, h3⟩
  · rw [h1, orZ_nn] at f1
    have hd : decide (0 ≤ (f : Int)) = true := decide_eq_true (by omega)
    rw [hd] at f1
    have Hs : Hid (S.setSup f ⟨true, c, h⟩ = S) := by
      rcases Ti.fullest_spec S h c with ⟨a, _⟩ | ⟨g, hg, a, b, _⟩
      · omega
      · have e : g = f := by omega
        subst e
        obtain ⟨i1, i2, i3⟩ := mi_is b
        exact setSup_same S g hf _ (by cases hs : S.sup g; rw [hs] at i1 i2 i3; simp at i1 i2 i3; rw [i1, i2, i3])
    have H1 : Hid _ := f1
    clear f1 h1
    go_enter Tryd.func98, Tryd.ntmps98
    go_wp2_with fail
    refine Calls.mono H1.out ?_
    rintro e w1 ⟨rfl, hE1⟩
    go_wp2
    go_ret2
    exact ⟨rfl, by rw [Hs.out]; exact hP.keep0 hE1, hE1.mono (fun _ _ x => x.elim)⟩
  · rw [h1] at f1
    have H1 : Hid _ := f1
    have hd : decide (0 ≤ (f : Int)) = true := decide_eq_true (by omega)
    have Hs : Hid ((S.sup f).is = true ∧ (S.sup f).cls = c) := by
      rcases Ti.fullest_spec S 0 c with ⟨a, _⟩ | ⟨g, hg, a, b, _⟩
      · omega
      · have e : g = f := by omega
        subst e
        obtain ⟨i1, i2, i3⟩ := mi_is b
        exact ⟨i1, i3⟩
    clear f1 h1
    go_enter Tryd.func98, Tryd.ntmps98
    go_wp2_with fail
    refine Calls.mono H1.out ?_
    rintro e w1 ⟨rfl, hE1⟩
    have hP1 := hP.keep0 hE1
    have H2 : Hid _ := fullestWithRoom_any w1 m bf bz S 0 c hP1 hI
    rw [h2, orZ_nn, hd] at H2
    clear h2 hd
    go_wp2_with fail
    refine Calls.mono H2.out ?_
    rintro e w2 ⟨rfl, hE2⟩
    have hP2 := hP1.keep0 hE2
    have y2 := hP2.c2
    obtain ⟨q0, q1, q2, q3, q4, q5, q6, q7, q8, q9, q10⟩ := hP2.fc f hf
    have qf := hP2.ff (f * 11 + 1)
    go_wp2
    go_ret2
    refine ⟨rfl, ?_, Ext.setCell (X := one bf) (Ext.mono (Y := one bf) (hE1.trans hE2) (fun _ _ x => x.elim)) ⟨bf, f * 11 + 1, none⟩ (.inl rfl) _⟩
    have hr := hP2.setHeap hne f hf Hs.out.1 h
    have e : ({ S.sup f with heap := h } : Ti.Sup) = ⟨true, c, h⟩ := by
      have := Hs.out
      cases hs : S.sup f; rw [hs] at this; simp at this; simp [this.1, this.2]
    rw [e] at hr
    exact hr
  · rw [h1] at f1
    have H1 : Hid _ := f1
    have hd : decide (0 ≤ (f : Int)) = true := decide_eq_true (by omega)
    have hfr : S.free f = true := by
      have := (Ti.run_free S 1 f h3).2 0 (by omega)
      simpa using this
    clear f1 h1
    go_enter Tryd.func98, Tryd.ntmps98
    go_wp2_with fail
    refine Calls.mono H1.out ?_
    rintro e w1 ⟨rfl, hE1⟩
    have hP1 := hP.keep0 hE1
    have H2 : Hid _ := fullestWithRoom_any w1 m bf bz S 0 c hP1 hI
    rw [h2] at H2
    clear h2
    go_wp2_with fail
    refine Calls.mono H2.out ?_
    rintro e w2 ⟨rfl, hE2⟩
    have hP2 := hP1.keep0 hE2
    go_wp2_with fail
    refine (freeFramesMk_any m w2).mono ?_
    rintro e w3 ⟨rfl, rfl⟩
    have H3 : Hid _ := lowestFree_any (w2.alloc (.cells #[.pointer (some ⟨m, 0, none⟩)] 69)) m bf bz w2.heap.size S (hP2.keep0 ((Ext.refl _ _).alloc _)) h16 (heap_alloc_new _ _)
    rw [h3, orZ_nn, hd] at H3
    clear h3 hd
    go_wp2_with fail
    refine Calls.mono H3.out ?_
    rintro e w4 ⟨rfl, hE4⟩
    have hE4' : Ext none1 w w4 := ((hE1.trans hE2).alloc _).trans hE4
    have hP4 := hP.keep0 hE4'
    have y2 := hP4.c2
    obtain ⟨q0, q1, q2, q3, q4, q5, q6, q7, q8, q9, q10⟩ := hP4.fc f hf
    have qf0 := hP4.ff (f * 11)
    have qf1 := hP4.ff (f * 11 + 1)
    have qf2 := hP4.ff (f * 11 + 2)
    have qf3 := hP4.ff (f * 11 + 3)
    have qf4 := hP4.ff (f * 11 + 4)
    have qf5 := hP4.ff (f * 11 + 5)
    have qf6 := hP4.ff (f * 11 + 6)
    have qf7 := hP4.ff (f * 11 + 7)
    have qf8 := hP4.ff (f * 11 + 8)
    have qf9 := hP4.ff (f * 11 + 9)
    have qf10 := hP4.ff (f * 11 + 10)
    clear H1 H2 H3
    go_wp2
    go_ret2
    exact ⟨rfl, hP4.putFrame hne f hf ⟨true, c, h⟩ 1 h c (pk_sup S f hf c h) rfl rfl (fun j _ => slot_free S hI f hf hfr _ j), ext_putFrame (X := one bf) (Ext.mono (Y := one bf) hE4' (fun _ _ x => x.elim)) (show one bf bf from rfl) 1 h c⟩
end Go.Proofs.YtbagfepdmmfegaaDoor
