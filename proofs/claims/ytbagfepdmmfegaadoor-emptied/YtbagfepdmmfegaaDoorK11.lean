import Derived.Test.YtbagfepdmmfegaaDoorK10
set_option linter.unusedVariables false
set_option linter.unusedSimpArgs false
namespace Go.Proofs.YtbagfepdmmfegaaDoor
open Go.RowKit Go.Shelf
attribute [local go_sem] Oper.semAt_some

/-! ### runs of free frames -/
set_option maxHeartbeats 400000 in
theorem framesFor_any (size : Int) (w : World) (h0 : 0 ≤ size) (h1 : size ≤ 1000) :
    Calls Tryd.prog 77 #[.int .i64 size] w fun e w' => e = .returned (.int .i64 ((size + 63) / 64)) ∧ w = w' := by
  go_enter Tryd.func77, Tryd.ntmps77
  go_wp2
  go_ret
  exact ⟨by congr 2; show Value.int IntKind.i64 _ = _; congr 1; omega, rfl⟩

theorem taken_any (k h c : Int) (s : Nat → Int) (w : World) :
    Calls Tryd.prog 106 #[.agg #[.int .i64 k, .int .i64 h, .int .i64 c, .int .i64 (s 0), .int .i64 (s 1), .int .i64 (s 2), .int .i64 (s 3), .int .i64 (s 4), .int .i64 (s 5), .int .i64 (s 6), .int .i64 (s 7)]] w fun e w' =>
      e = .returned (.bool (!(k == 0))) ∧ Ext none1 w w' := by
  go_enter Tryd.func106, Tryd.ntmps106
  go_wp2
  go_ret
  exact ⟨rfl, (Ext.refl _ _).alloc _⟩

set_option maxRecDepth 100000 in
set_option maxHeartbeats 2000000 in
theorem indexFunc_any (w : World) (m bf bz : Nat) (S : Ti.St) (f cnt cap : Nat) (hP : PrAt w m bf bz S) (h16 : S.sups.length ≤ 16) (hf : f + cnt ≤ S.sups.length) :
    Calls Tryd.prog 110 #[.slice (some ⟨bf, f * 11, none⟩) cnt cap, .func (.func 106) #[] #[]] w fun e w' =>
      ∃ r : Int, e = .returned (.int .i64 r) ∧ decide (0 ≤ r) = !S.allFree f cnt ∧ Ext none1 w w' := by
  go_enter Tryd.func110, Tryd.ntmps110
  go_wp2
  go_loopw [5, 8] (fun _ i wr => ∃ j : Nat, j ≤ cnt ∧ i = .int .i64 j ∧ S.allFree f j = true ∧ Ext none1 w wr) (fun _ i _ => cnt - (intOf i).toNat)
  case atStart => exact ⟨0, Nat.zero_le _, rfl, rfl, Ext.refl _ _⟩
  case round =>
    obtain ⟨j, hj, rfl, hall, hE⟩ := hrel
    have hPr := hP.keep0 hE
    by_cases hlt : j < cnt
    · obtain ⟨q0, q1, q2, q3, q4, q5, q6, q7, q8, q9, q10⟩ := hPr.fc (f + j) (by omega)
      have e : (f + j) * 11 = f * 11 + j * 11 := by omega
      rw [e] at q0 q1 q2 q3 q4 q5 q6 q7 q8 q9 q10
      have Hstep : Hid (S.allFree f (j + 1) = S.free (f + j)) := by show _ = _; simp [Ti.St.allFree, hall]
      have Hfo : Hid (S.free (f + j) = true ↔ pk S (f + j) = 0) := freeOk S (f + j)
      have Hrest : Hid (S.free (f + j) = false → S.allFree f cnt = false) := fun h => by
        cases hc : S.allFree f cnt with
        | false => rfl
        | true => have := (Ti.allFree_spec S f cnt).1 hc j hlt; rw [h] at this; cases this
      clear hall e
      go_wp2_with fail
      refine (taken_any _ _ _ (slotOf S (f + j)) _).mono ?_
      rintro e w2 ⟨rfl, hE2⟩
      have hE3 := hE.trans hE2
      clear q0 q1 q2 q3 q4 q5 q6 q7 q8 q9 q10
      by_cases hk : pk S (f + j) = 0
      · have hkb : (pk S (f + j) == 0) = true := beq_iff_eq.2 hk
        have hfr := Hstep.out.trans (Hfo.out.2 hk)
        clear Hstep Hfo Hrest hk
        rw [hkb]
        go_wp2
        go_roundw
        case rel => exact ⟨j + 1, by omega, by go_num, hfr, hE3⟩
        case measure => simp [intOf]; omega
      · have hkb : (pk S (f + j) == 0) = false := beq_eq_false_iff_ne.2 hk
        have hfr : S.free (f + j) = false := by
          cases hh : S.free (f + j) with
          | false => rfl
          | true => exact absurd (Hfo.out.1 hh) hk
        have hno := Hrest.out hfr
        clear Hstep Hfo Hrest hk hfr
        rw [hkb]
        go_wp2
        go_ret
        exact ⟨j, rfl, by rw [hno]; simp, hE3⟩
    · obtain rfl : j = cnt := by omega
      go_wp2
      go_ret
      exact ⟨-1, rfl, by rw [hall]; rfl, hE⟩

theorem containsFunc_any (w : World) (m bf bz : Nat) (S : Ti.St) (f cnt cap : Nat) (hP : PrAt w m bf bz S) (h16 : S.sups.length ≤ 16) (hf : f + cnt ≤ S.sups.length) :
    Calls Tryd.prog 105 #[.slice (some ⟨bf, f * 11, none⟩) cnt cap, .func (.func 106) #[] #[]] w fun e w' =>
      e = .returned (.bool (!S.allFree f cnt)) ∧ Ext none1 w w' := by
  have H1 : Hid _ := indexFunc_any w m bf bz S f cnt cap hP h16 hf
  clear hP
  go_enter Tryd.func105, Tryd.ntmps105
  go_wp2_with fail
  refine Calls.mono H1.out ?_
  rintro e w2 ⟨r, rfl, hr, hE⟩
  go_wp2
  go_ret
  exact ⟨by rw [← hr]; rfl, hE⟩

/-! ### a region that draws its order, where the fence is wide -/
theorem wpOpsIn_wideD {P : Program} {ops : Array Oper} {Q : Exit → Act → World → Prop} {n : Nat} (hd : noDefer ops = true) (hq : ¬ LetsOut Q) :
    ∀ (is : List Nat) (a : Act) (w : World), wpOps P ops Q is a w → wpOpsIn Fence.wide n P ops Q is a w := by
  intro is
  induction is with
  | nil => intro a w h; exact h
  | cons i rest ih =>
    intro a w h
    unfold wpOps at h
    unfold wpOpsIn
    cases hi : ops[i]? with
    | none => simp only [hi] at h ⊢; exact ih a w h
    | some o =>
      simp only [hi] at h ⊢
      by_cases hw : Region.wanted o (yielded ops a.tmps) = true
      · rw [if_pos hw] at h ⊢
        rcases h with h | h
        · refine ⟨fun _ _ => trivial, ?_⟩
          rw [Oper.semAt_eq _ _ _ (noDefer_spec hd i o hi)]
          unfold Oper.wp at h
          generalize (execOp a.eval o).run P w = r at *
          cases r with
          | ok x w' =>
            cases x <;> simp only [Oper.upon, Oper.uponIn] at h ⊢
            case value u => exact ih _ _ h
            case skip => exact ih _ _ h
            case defer d => exact ih _ _ h
            case enter f args =>
              refine ⟨fun hh => (by cases hh), callsIn_wide.2 (h.mono fun e w'' he => ?_)⟩
              cases e with
              | returned u => exact ih _ _ he
              | panicked c => exact he
              | outgrown => exact he
            case row row args => exact ⟨fun hh => (by cases hh), rowsIn_wide (h.mono fun u w'' he => ih _ _ he)⟩
          | halt x w' => cases x <;> simp only [Oper.upon, Oper.uponIn] at h ⊢ <;> exact h
        · exact absurd h.2 hq
      · rw [if_neg hw] at h ⊢
        exact ⟨fun _ _ => trivial, ih _ _ h⟩

theorem wpIn_region_wideD {P : Program} {id : Nat} {ops : Array Oper} {Q : Exit → Act → World → Prop} {a : Act} {w : World} {n : Nat} {S : World → Prop} (hm : P.follows .mixedOrders = true) (hd : noDefer ops = true) (hq : ¬ LetsOut Q)
    (hS : S w.drew) (h : S w.drew → wpAnyH P .any ops Q S ops.size (Array.replicate ops.size false) a w.drew) : (Code.region id ops true).wpIn Fence.wide n P Q a w :=
  wpIn_region_draw fun t => wpOpsIn_wideD hd hq _ _ _ (by
    simp only [Region.schedule, hm, Bool.true_or, if_true]
    exact wpAny_sound ops.size t _ a _ (wpAny_of_held _ _ _ _ (h hS)))
/-- at whatever is asked behind it -/
theorem wpIn_region_wideQ {P : Program} {id : Nat} {ops : Array Oper} {Q : Exit → Act → World → Prop} {a : Act} {w : World} {n : Nat} (S : World → Prop) (hm : P.follows .mixedOrders = true) (hd : noDefer ops = true)
    (hS : S w.drew) (h : S w.drew → wpAnyH P .any ops (fun e a w => e ≠ .outgrown ∧ Q e a w) S ops.size (Array.replicate ops.size false) a w.drew) : (Code.region id ops true).wpIn Fence.wide n P Q a w :=
  wpIn_mono (wpIn_region_wideD hm hd (fun ⟨_, _, hh⟩ => hh.1 rfl) hS h) (fun _ _ _ hh => hh.2)
end Go.Proofs.YtbagfepdmmfegaaDoor
