import Derived.Test.YtbagfepdmmfegaaDoorK06
import Derived.Deep.RegionWith
set_option linter.unusedVariables false
set_option linter.unusedSimpArgs false
namespace Go.Proofs.YtbagfepdmmfegaaDoor
open Go.RowKit Go.Shelf
attribute [local go_sem] Oper.semAt_some

/-- a fence that lets everything by -/
structure Wide (F : Fence) : Prop where
  all : ∀ f, F.fn f
  round : F.round = none
  depth : F.depth = none
  calls : ∀ {n : Nat} {P : Program} {f : FuncId} {args : Array Value} {w : World} {R : Ending → World → Prop}, Calls P f args w R → CallsIn F n P f args w R
theorem Wide.wide : Wide Fence.wide := ⟨fun _ => trivial, rfl, rfl, fun h => callsIn_wide.2 h⟩

theorem usedSlots_agg (k h c : Int) (s : Nat → Int) (w : World) :
    Calls Tryd.prog 50 #[.agg #[.int .i64 k, .int .i64 h, .int .i64 c, .int .i64 (s 0), .int .i64 (s 1), .int .i64 (s 2), .int .i64 (s 3), .int .i64 (s 4), .int .i64 (s 5), .int .i64 (s 6), .int .i64 (s 7)]] w fun e w' => e = .returned (.int .i64 (posTo s 8 : Nat)) ∧ Ext none1 w w' :=
  usedSlots_any k h c s w

set_option maxRecDepth 100000 in
set_option maxHeartbeats 2000000 in
theorem full_any (k h c : Int) (s : Nat → Int) (w : World) (c0 : 0 ≤ c) (c2 : c ≤ 2) :
    Calls Tryd.prog 114 #[.agg #[.int .i64 k, .int .i64 h, .int .i64 c, .int .i64 (s 0), .int .i64 (s 1), .int .i64 (s 2), .int .i64 (s 3), .int .i64 (s 4), .int .i64 (s 5), .int .i64 (s 6), .int .i64 (s 7)]] w fun e w' => e = .returned (.bool ((posTo s 8 : Int) == Ti.slots c)) ∧ Ext none1 w w' := by
  go_enter Tryd.func114, Tryd.ntmps114
  go_wp2
  have hE1 : ∀ o : Obj, Ext none1 w (w.alloc o).drew := fun o => ((Ext.refl _ _).alloc _).drew
  go_region_with (first
    | (go_at_call 109; refine (slotCount_any _ _ c0 c2).mono ?_; rintro e w' ⟨rfl, rfl⟩)
    | (go_at_call 50; refine (usedSlots_agg k h c s _).mono ?_; rintro e w' ⟨rfl, hE2⟩; have hx2 := hE2.keep (k := w.heap.size) ((heap_alloc_new _ _)) (fun x => x); have hx3 := cell_of hx2 2; simp at hx3; have hx4 := lt_of_heap hx2))
  all_goals go_wp2
  all_goals go_ret
  all_goals exact ⟨rfl, (hE1 _).trans (by assumption)⟩

/-! ### the used slots of a frame -/
theorem sizeAt_pos (S : Ti.St) (hI : Ti.Inv0 S) (a : Int) : (0 < sizeAt S.blocks a) ↔ 0 ≤ Ti.atI S.blocks a := by
  unfold sizeAt
  by_cases h : 0 ≤ Ti.atI S.blocks a
  · rw [if_pos h]
    have := (hI.ok _ (Ti.bk_mem (Ti.atI_at S.blocks a h).1)).1
    exact ⟨fun _ => h, fun _ => by omega⟩
  · rw [if_neg h]; omega
theorem posTo_occ (S : Ti.St) (hI : Ti.Inv0 S) (f : Nat) (hf : (S.sup f).is = true) (n : Nat) (hn : (n : Int) ≤ Ti.slots (S.sup f).cls) : posTo (slotOf S f) n = Ti.occ S.blocks (64 * f) (Ti.width (S.sup f).cls) n := by
  induction n with
  | zero => rfl
  | succ n ih =>
    have h1 := ih (by omega)
    simp only [posTo, Ti.occ, h1]
    have : slotOf S f n = sizeAt S.blocks (64 * f + n * Ti.width (S.sup f).cls) := by unfold slotOf; rw [if_pos ⟨hf, by omega⟩]
    rw [this]
    simp only [sizeAt_pos S hI]
theorem posTo_rest (S : Ti.St) (f n : Nat) (hf : (S.sup f).is = true) (h : ¬ (n : Int) < Ti.slots (S.sup f).cls) (m : Nat) : posTo (slotOf S f) (n + m) = posTo (slotOf S f) n := by
  induction m with
  | zero => rfl
  | succ m ih =>
    have e : slotOf S f (n + m) = 0 := by
      unfold slotOf; rw [if_neg, if_neg]
      · intro ⟨a, b⟩; rw [hf] at a; cases a
      · intro ⟨a, b⟩; exact h (by omega)
    show posTo (slotOf S f) (n + m + 1) = _
    simp only [posTo]
    rw [e, if_neg (by omega), ih]
theorem usedSlots_used (S : Ti.St) (hI : Ti.Inv0 S) (f : Nat) (hf : (S.sup f).is = true) : posTo (slotOf S f) 8 = S.used f := by
  rw [Ti.used_occ S hI f hf]
  have hw := Ti.width_slots (S.sup f).cls
  have e : 8 = (Ti.slots (S.sup f).cls).toNat + (8 - (Ti.slots (S.sup f).cls).toNat) := by omega
  rw [e, posTo_rest S f _ hf (by omega), posTo_occ S hI f hf _ (by omega)]

theorem charged_mine (S : Ti.St) (h c : Int) (n : Nat) : S.chargedTo h c n = ((mineTo S h c n).map fun i => Ti.width c * (S.used i : Int)).sum := by
  induction n with
  | zero => rfl
  | succ n ih =>
    simp only [Ti.St.chargedTo, mineTo]
    split
    · rw [ih]; simp [List.sum_append]
    · exact ih
theorem mineTo_mem (S : Ti.St) (h c : Int) (n i : Nat) (hi : i ∈ mineTo S h c n) : i < n ∧ S.mine h c i = true := by
  induction n with
  | zero => simp [mineTo] at hi
  | succ n ih =>
    simp only [mineTo] at hi
    split at hi
    · rename_i hm
      simp at hi
      rcases hi with hi | rfl
      · have := ih hi; exact ⟨by omega, this.2⟩
      · exact ⟨by omega, hm⟩
    · have := ih hi; exact ⟨by omega, this.2⟩
end Go.Proofs.YtbagfepdmmfegaaDoor

namespace Go.Proofs.YtbagfepdmmfegaaDoor
open Go.RowKit Go.Shelf
attribute [local go_sem] Oper.semAt_some

/-- the best so far -/
def bstep {α : Type} (bt : α → α → Bool) (o : Option α) (x : α) : Option α :=
  match o with
  | none => some x
  | some b => if bt x b = true then some x else some b
def bestOf {α : Type} (bt : α → α → Bool) (l : List α) : Option α := l.foldl (bstep bt) none
theorem bestOf_snoc {α : Type} (bt : α → α → Bool) (l : List α) (x : α) : bestOf bt (l ++ [x]) = bstep bt (bestOf bt l) x := by simp [bestOf]
def bval {α : Type} (val : α → Int) (o : Option α) : Int :=
  match o with
  | none => 0
  | some b => val b

set_option maxRecDepth 100000 in
set_option maxHeartbeats 4000000 in
theorem best_in {α : Type} (F : Fence) (n : Nat) (hF : Wide F) (hn : 4 ≤ n) (w : World) (gf bfn : Nat) (lb lb2 : Array Value) (val : α → Int) (xs : List α) (Sp : List α → Prop) (Ok : List α → α → Prop) (bt : α → α → Bool)
    (eg : ∀ args w, (callFunc gf args).run Tryd.prog w = .ok (.enter gf args) w) (eb : ∀ args w, (callFunc bfn args).run Tryd.prog w = .ok (.enter bfn args) w)
    (hseq : ∀ w1, Below w.heap.size w w1 → w1.heap.size = w.heap.size + 3 → SeqJ F (n - 1) Tryd.prog gf lb (fun x : α => #[.int .i64 (val x)]) Ok (fun l => Stay (but (two (w.heap.size + 1) (w.heap.size + 2)) l)) (fun _ _ => True) (fun ys => ys = xs) Sp w1)
    (hbet : ∀ (x y : α) (W : World) (m : Nat), Below w.heap.size w W → CallsIn F m Tryd.prog bfn (#[.int .i64 (val x), .int .i64 (val y)] ++ lb2) W fun e W' => e = .returned (.bool (bt x y)) ∧ Ext none1 W W') :
    CallsIn F n Tryd.prog 94 #[.func (.func gf) #[] lb, .func (.func bfn) #[] lb2] w fun e w' =>
      e = .returned (.tuple #[.int .i64 (bval val (bestOf bt xs)), .bool (bestOf bt xs).isSome]) ∧ Ext none1 w w' := by
  have h1 : 1 ≤ n := by omega
  have hall := hF.all
  have hro := hF.round
  refine callsIn_of_wp_marks Tryd.func94 rfl (hall _) ?_ hro
  simp only [Tryd.ntmps94, List.size_toArray, List.length_cons, List.length_nil, Nat.reduceAdd, Nat.reduceSub, Array.replicate_succ, Array.replicate_zero, List.push_toArray, List.append_toArray, List.nil_append, List.cons_append]
  gi_wp2
  have hbA := heap3 w (.cells #[.func (.func bfn) #[] lb2] 107) (.cells #[.int .i64 0] 3) (.cells #[.bool false] 4)
  have hEA : Ext none1 w (((w.alloc (.cells #[.func (.func bfn) #[] lb2] 107)).alloc (.cells #[.int .i64 0] 3)).alloc (.cells #[.bool false] 4)) := (((Ext.refl _ _).alloc _).alloc _).alloc _
  have hsA : (((w.alloc (.cells #[.func (.func bfn) #[] lb2] 107)).alloc (.cells #[.int .i64 0] 3)).alloc (.cells #[.bool false] 4)).heap.size = w.heap.size + 3 := by simp
  generalize (((w.alloc (.cells #[.func (.func bfn) #[] lb2] 107)).alloc (.cells #[.int .i64 0] 3)).alloc (.cells #[.bool false] 4)) = w1 at *
  have hd1 : 1 ≤ n - 1 - 1 := by omega
  refine range_J hro h1 (gf := gf) (lb := lb) rfl (hall _) eg (hseq _ hEA.below hsA) (fun a b => a.trans b) (fun W l o _ => stay_put _ W l o) (fun _ => rfl)
    (fun pre W => W.heap[w.heap.size]? = some (.cells #[.func (.func bfn) #[] lb2] 107 (0, 0)) ∧ W.heap[w.heap.size + 1]? = some (.cells #[.int .i64 (bval val (bestOf bt pre))] 3 (0, 0)) ∧ W.heap[w.heap.size + 2]? = some (.cells #[.bool (bestOf bt pre).isSome] 4 (0, 0)) ∧ Below w.heap.size w W)
    (fun _ _ _ => False)
    (OwnFrom.and (ownFrom_block (by omega) _) (OwnFrom.and (ownFrom_block (by omega) _) (OwnFrom.and (ownFrom_block (by omega) _) (ownFrom_below (Nat.le_refl _) (by omega)))))
    (fun _ _ _ _ _ hs _ _ => hs) (fun _ _ _ => trivial)
    ⟨hbA.1, hbA.2.1, hbA.2.2, hEA.below⟩
    (fun x => { tmps := #[.func (.func gf) #[] lb, .func (.func bfn) #[] lb2, undef, .pointer (some ⟨w.heap.size, 0, none⟩), .int .i64 0, .bool false, .pointer (some ⟨w.heap.size + 1, 0, none⟩), .pointer (some ⟨w.heap.size + 1 + 1, 0, none⟩), .int .i64 (val x), .func (.func gf) #[] lb, .int .i64 (val x), undef, undef, undef, undef, undef, undef, undef, undef, undef, undef, undef], defers := [] }) ?assign ?body ?done ?stop
  case assign =>
    intro l x W K hK
    gi_wp2
    simpa using hK
  case body =>
    rintro l pre x W hll ⟨e0, e1, e2, hB⟩ hlt
    have y2 := cell_of e0 0
    have y3 := cell_of e1 0
    have y4 := cell_of e2 0
    have y5 := frozen_of e1 0
    have y6 := frozen_of e2 0
    simp at y2 y3 y4
    have Hsn : Hid (bestOf bt (pre ++ [x]) = bstep bt (bestOf bt pre) x) := bestOf_snoc bt pre x
    have hbx := fun y m => hbet x y W m hB
    have fin : ∀ (W2 : World), Below w.heap.size w W2 → KeepsOthers W W2 → Stay (but (two (w.heap.size + 1) (w.heap.size + 2)) l) W W2 → W2.heap[w.heap.size]? = some (.cells #[.func (.func bfn) #[] lb2] 107 (0, 0)) → W2.heap[w.heap.size + 1]? = some (.cells #[.int .i64 (bval val (bestOf bt pre))] 3 (0, 0)) → W2.heap[w.heap.size + 2]? = some (.cells #[.bool (bestOf bt pre).isSome] 4 (0, 0)) →
        KeepsOthers W ((W2.setCell ⟨w.heap.size + 1, 0, none⟩ (.int .i64 (val x))).setCell ⟨w.heap.size + 1 + 1, 0, none⟩ (.bool true)) ∧ Stay (but (two (w.heap.size + 1) (w.heap.size + 2)) l) W ((W2.setCell ⟨w.heap.size + 1, 0, none⟩ (.int .i64 (val x))).setCell ⟨w.heap.size + 1 + 1, 0, none⟩ (.bool true)) ∧
        ((W2.setCell ⟨w.heap.size + 1, 0, none⟩ (.int .i64 (val x))).setCell ⟨w.heap.size + 1 + 1, 0, none⟩ (.bool true)).heap[w.heap.size]? = some (.cells #[.func (.func bfn) #[] lb2] 107 (0, 0)) ∧
        ((W2.setCell ⟨w.heap.size + 1, 0, none⟩ (.int .i64 (val x))).setCell ⟨w.heap.size + 1 + 1, 0, none⟩ (.bool true)).heap[w.heap.size + 1]? = some (.cells #[.int .i64 (val x)] 3 (0, 0)) ∧
        ((W2.setCell ⟨w.heap.size + 1, 0, none⟩ (.int .i64 (val x))).setCell ⟨w.heap.size + 1 + 1, 0, none⟩ (.bool true)).heap[w.heap.size + 2]? = some (.cells #[.bool true] 4 (0, 0)) ∧
        Below w.heap.size w ((W2.setCell ⟨w.heap.size + 1, 0, none⟩ (.int .i64 (val x))).setCell ⟨w.heap.size + 1 + 1, 0, none⟩ (.bool true)) := by
      intro W2 hB2 hK2 hS2 g0 g1 g2
      refine ⟨hK2.trans ((KeepsOthers.setCell _ _ _).trans (KeepsOthers.setCell _ _ _)), (hS2.setCell _ (fun h => h.1 (.inl rfl)) _).setCell _ (fun h => h.1 (.inr rfl)) _, ?_, ?_, ?_, (hB2.setCell (p := ⟨w.heap.size + 1, 0, none⟩) (by simp) _).setCell (p := ⟨w.heap.size + 1 + 1, 0, none⟩) (by simp; omega) _⟩
      · rw [heap_set_ne (by omega), heap_set_ne (by omega)]; exact g0
      · rw [heap_set_ne (by omega), heap_set g1]; rfl
      · have e3 : (W2.setCell ⟨w.heap.size + 1, 0, none⟩ (.int .i64 (val x))).heap[w.heap.size + 1 + 1]? = some (.cells #[.bool (bestOf bt pre).isSome] 4 (0, 0)) := by rw [heap_set_ne (by omega)]; exact g2
        exact heap_set e3 0 (.bool true)
    have Hfin : Hid _ := fin
    clear hbet fin
    cases hb : bestOf bt pre with
    | none =>
      rw [hb] at Hsn y3 y4 e1 e2 Hfin
      dsimp only [Option.isSome] at y4
      have HF := Hfin.out W hB (KeepsOthers.refl _) (Stay.refl _ _) e0 e1 e2
      have HF' : Hid _ := HF
      clear hb HF Hfin hbx
      gi_wp2
      exact ⟨HF'.out.1.from _, HF'.out.2.1, HF'.out.2.2.1, by rw [Hsn.out]; exact HF'.out.2.2.2.1, by rw [Hsn.out]; exact HF'.out.2.2.2.2.1, HF'.out.2.2.2.2.2⟩
    | some b =>
      rw [hb] at Hsn y3 y4 e1 e2 Hfin
      dsimp only [Option.isSome, bval] at y3 y4
      have Hbx : Hid _ := hbx
      clear hbx hb
      gi_wp2_with fail
      refine (CallsIn.inRound l (Hbx.out b _)).mono ?_
      rintro e W2 ⟨rfl, hE2⟩
      have g0 := hE2.keep e0 (fun x => x)
      have g1 := hE2.keep e1 (fun x => x)
      have g2 := hE2.keep e2 (fun x => x)
      have hB2 : Below w.heap.size w W2 := hB.trans (hE2.below.mono (by have := hB.size; omega))
      have hK2 : KeepsOthers W W2 := ⟨hE2.size, fun k o hk _ => hE2.keep hk (fun x => x)⟩
      have hS2 : Stay (but (two (w.heap.size + 1) (w.heap.size + 2)) l) W W2 := Stay.of_ext hE2 (fun _ _ x => x)
      have HF : Hid _ := Hfin.out W2 hB2 hK2 hS2 g0 g1 g2
      have z3 := cell_of g1 0
      have z4 := cell_of g2 0
      have z5 := frozen_of g1 0
      have z6 := frozen_of g2 0
      simp at z3 z4
      clear y2 y3 y4 y5 y6 Hfin Hbx
      cases hbt : bt x b
      · have Hs2 : Hid (bestOf bt (pre ++ [x]) = some b) := by show _ = _; rw [Hsn.out]; simp [bstep, hbt]
        clear hbt
        gi_wp2
        exact ⟨hK2.from _, hS2, g0, by rw [Hs2.out]; exact g1, by rw [Hs2.out]; exact g2, hB2⟩
      · have Hs2 : Hid (bestOf bt (pre ++ [x]) = some x) := by show _ = _; rw [Hsn.out]; simp [bstep, hbt]
        clear hbt
        gi_wp2
        exact ⟨HF.out.1.from _, HF.out.2.1, HF.out.2.2.1, by rw [Hs2.out]; exact HF.out.2.2.2.1, by rw [Hs2.out]; exact HF.out.2.2.2.2.1, HF.out.2.2.2.2.2⟩
  case done =>
    rintro D ys W hD rfl ⟨e0, e1, e2, hB⟩ hKd
    have c1 := cell_of e1 0
    have c2 := cell_of e2 0
    simp at c1 c2
    gi_wp2
    gi_region
    all_goals gi_wp2
    all_goals
      refine ⟨by simp, .inl ⟨_, _, rfl, run_takeDeferred (w := W.drew) hKd, ?_⟩⟩
      refine ⟨_, results_tmp2 rfl _ _ _, rfl, ?_⟩
      exact Ext.of_below (hB.drew.trans (belowK_b (w := w) (Nat.le_refl _) W.drew D _ _ (by omega) hKd rfl rfl))
  case stop =>
    rintro D c pre W _ _ h _
    exact h.elim
end Go.Proofs.YtbagfepdmmfegaaDoor

namespace Go.Proofs.YtbagfepdmmfegaaDoor
open Go.RowKit Go.Shelf
attribute [local go_sem] Oper.semAt_some

/-- a free frame -/
abbrev Fr (S : Ti.St) : Type := { i : Nat // i < S.sups.length ∧ pk S i = 0 }
def frs (S : Ti.St) : Nat → List (Fr S)
  | 0 => []
  | k + 1 => if hm : k < S.sups.length ∧ pk S k = 0 then frs S k ++ [⟨k, hm⟩] else frs S k
theorem frs_len (S : Ti.St) (k : Nat) : (frs S k).length ≤ k := by
  induction k with
  | zero => simp [frs]
  | succ k ih =>
    simp only [frs]
    split
    · rw [List.length_append]; exact Nat.add_le_add_right ih 1
    · omega

set_option maxRecDepth 100000 in
set_option maxHeartbeats 2000000 in
theorem freeFrames1_in (F : Fence) (n : Nat) (hF : F.fn 73) (hro : F.round = none) (hn : 1 ≤ n) (l : Nat) (K : Nat → Prop) (m bf bz bm : Nat) (S : Ti.St) (h16 : S.sups.length ≤ 16) (J Jx : List (Fr S) → World → Prop) (W : World)
    (hY : ∀ (pre : List (Fr S)) (x : Fr S) W1, J pre W1 → pre.length < S.sups.length → YieldAt F (n - 1) Tryd.prog l #[.int .i64 (x.1 : Int)] W1 fun e W' =>
      (e = .returned (.bool true) ∧ J (pre ++ [x]) W' ∧ Stay K W1 W') ∨ (e = .returned (.bool false) ∧ Jx (pre ++ [x]) W'))
    (k1 : K bm) (k4 : K m) (k5 : K bf) (k6 : K bz)
    (hbm : W.heap[bm]? = some (.cells #[.pointer (some ⟨m, 0, none⟩)] 69 (0, 0)))
    (hP : PrAt W m bf bz S) (h0 : J [] W) :
    CallsIn F n Tryd.prog 73 #[.func (.yield l) #[] #[], .pointer (some ⟨bm, 0, none⟩)] W fun e W' => (∃ v, e = .returned v) ∧
      ((∃ ys, ys = frs S S.sups.length ∧ J ys W') ∨ (∃ pre, (∃ k, k ≤ S.sups.length ∧ pre = frs S k) ∧ Jx pre W')) := by
  refine callsIn_of_wp Tryd.func73 rfl hF ?_ hro
  simp only [Tryd.ntmps73, List.size_toArray, List.length_cons, List.length_nil, Nat.reduceAdd, Nat.reduceSub, Array.replicate_succ, Array.replicate_zero, List.push_toArray, List.append_toArray, List.nil_append, List.cons_append]
  have x1 : W.cell? ⟨bm, 0, none⟩ = some (.pointer (some ⟨m, 0, none⟩)) := by rw [cell_of hbm]; rfl
  have x2 := hP.c2
  gi_wp2
  gi_loopw [3, 9] (fun _ i wr => ∃ k : Nat, k ≤ S.sups.length ∧ i = .int .i64 k ∧ J (frs S k) wr ∧ Stay K W wr)
    (fun _ i _ => S.sups.length - (intOf i).toNat)
  case atStart => exact ⟨0, Nat.zero_le _, rfl, h0, Stay.refl _ _⟩
  case round =>
    clear x1 x2
    obtain ⟨k, hk, rfl, hJs, hst⟩ := hrel
    have hPr := hP.stay hst k4 k5 k6
    have y1 : wr.cell? ⟨bm, 0, none⟩ = some (.pointer (some ⟨m, 0, none⟩)) := by rw [cell_of (hst bm _ k1 hbm)]; rfl
    have y4 := hPr.c2
    by_cases hlt : k < S.sups.length
    · obtain ⟨q0, q1, q2, q3, q4, q5, q6, q7, q8, q9, q10⟩ := hPr.fc k hlt
      have Hmt : Hid (frs S (k + 1) = if hm : k < S.sups.length ∧ pk S k = 0 then frs S k ++ [⟨k, hm⟩] else frs S k) := rfl
      have hlen := frs_len S k
      by_cases hm : pk S k = 0
      · have Hmt' : Hid (frs S (k + 1) = frs S k ++ [⟨k, hlt, hm⟩]) := by show _ = _; rw [Hmt.out, dif_pos ⟨hlt, hm⟩]
        obtain ⟨fn, tmps, assign, body, hy, hR⟩ := hY _ ⟨k, hlt, hm⟩ _ hJs (by omega)
        have b0 : (pk S k == 0) = true := beq_iff_eq.2 hm
        have Hst : Hid (Stay K W wr) := hst
        clear Hmt hY hst
        dsimp only at hy
        gi_wp2
        refine hR.mono ?_
        rintro e W3 (⟨rfl, hJ3, hk3⟩ | ⟨rfl, hJx3⟩)
        · gi_wp2
          go_roundw
          case rel => exact ⟨k + 1, by omega, by go_num, by rw [Hmt'.out]; exact hJ3, Hst.out.trans hk3⟩
          case measure => simp [intOf]; omega
        · gi_wp2
          refine bodyPost_ret (results_none rfl _ _ _) rfl ?_
          exact ⟨⟨_, rfl⟩, .inr ⟨_, ⟨k + 1, by omega, Hmt'.out.symm⟩, hJx3⟩⟩
      · have Hmt' : Hid (frs S (k + 1) = frs S k) := by show _ = _; rw [Hmt.out, dif_neg (fun x => hm x.2)]
        have b0 : (pk S k == 0) = false := beq_eq_false_iff_ne.2 hm
        have Hst : Hid (Stay K W wr) := hst
        clear Hmt hY hst hm
        gi_wp2
        refine ⟨fun _ h => (by cases h), ?_⟩
        gi_wp2
        go_roundw
        case rel => exact ⟨k + 1, by omega, by go_num, by rw [Hmt'.out]; exact hJs, Hst.out⟩
        case measure => simp [intOf]; omega
    · obtain rfl : k = S.sups.length := by omega
      gi_wp2
      go_end0
      exact ⟨⟨_, rfl⟩, .inl ⟨_, rfl, hJs⟩⟩

theorem freeFrames_in (F : Fence) (n : Nat) (hF : F.fn 48) (hro : F.round = none) (m : Nat) (w : World) :
    CallsIn F n Tryd.prog 48 #[.pointer (some ⟨m, 0, none⟩)] w fun e w' =>
      e = .returned (.func (.func 73) #[] #[.pointer (some ⟨w.heap.size, 0, none⟩)]) ∧ w' = w.alloc (.cells #[.pointer (some ⟨m, 0, none⟩)] 69) := by
  refine callsIn_of_wp Tryd.func48 rfl hF ?_ hro
  simp only [Tryd.ntmps48, List.size_toArray, List.length_cons, List.length_nil, Nat.reduceAdd, Nat.reduceSub, Array.replicate_succ, Array.replicate_zero, List.push_toArray, List.append_toArray, List.nil_append, List.cons_append]
  gi_wp2
  go_ret
  exact ⟨rfl, rfl⟩

theorem freeFrames_J (F : Fence) (n : Nat) (hF : F.fn 73) (hro : F.round = none) (hn : 1 ≤ n) (X : Nat → Prop) (m bf bz bm : Nat) (S : Ti.St) (h16 : S.sups.length ≤ 16) (w : World)
    (k1 : ¬ X bm) (k4 : ¬ X m) (k5 : ¬ X bf) (k6 : ¬ X bz)
    (hbm : w.heap[bm]? = some (.cells #[.pointer (some ⟨m, 0, none⟩)] 69 (0, 0))) (hP : PrAt w m bf bz S) :
    SeqJ F n Tryd.prog 73 #[.pointer (some ⟨bm, 0, none⟩)] (fun x : Fr S => #[Value.int .i64 (x.1 : Int)]) (fun pre _ => pre.length < S.sups.length) (fun l => Stay (but X l)) (fun _ _ => True) (fun ys => ys = frs S S.sups.length)
      (fun pre => ∃ k, k ≤ S.sups.length ∧ pre = frs S k) w := by
  obtain ⟨_, hfl, _⟩ := hP.fr
  obtain ⟨_, hzl, _⟩ := hP.bytes
  refine SeqJ.of_stops (K := fun k => k = bm ∨ k = m ∨ k = bf ∨ k = bz) ?_ ?_
  · rintro k (rfl | rfl | rfl | rfl)
    · exact ⟨lt_of_heap hbm, k1⟩
    · exact ⟨lt_of_heap hP.hd, k4⟩
    · exact ⟨lt_of_heap hfl, k5⟩
    · exact ⟨lt_of_heap hzl, k6⟩
  · intro l J Jx W hW _ _ hY h0
    have hS' : Stay (fun _ => True) w W := fun k o _ ho => (hW.block k (lt_of_heap ho)).trans ho
    exact freeFrames1_in F n hF hro hn l _ m bf bz bm S h16 J Jx W hY (.inl rfl) (.inr (.inl rfl)) (.inr (.inr (.inl rfl))) (.inr (.inr (.inr rfl))) (hS' _ _ trivial hbm) (hP.stay hS' trivial trivial trivial) h0

/-! ### the free slots of a frame -/
abbrev Sl (s : Nat → Int) (n : Nat) : Type := { i : Nat // i < n ∧ s i = 0 }
def sls (s : Nat → Int) (n : Nat) : Nat → List (Sl s n)
  | 0 => []
  | k + 1 => if hm : k < n ∧ s k = 0 then sls s n k ++ [⟨k, hm⟩] else sls s n k
theorem sls_len (s : Nat → Int) (n k : Nat) : (sls s n k).length ≤ k := by
  induction k with
  | zero => simp [sls]
  | succ k ih =>
    simp only [sls]
    split
    · rw [List.length_append]; exact Nat.add_le_add_right ih 1
    · omega

/-- a frame's copy in a block -/
def FrameIn (W : World) (b : Nat) (k h c : Int) (s : Nat → Int) : Prop :=
  W.heap[b]? = some (.cells #[.int .i64 k, .int .i64 h, .int .i64 c, .int .i64 (s 0), .int .i64 (s 1), .int .i64 (s 2), .int .i64 (s 3), .int .i64 (s 4), .int .i64 (s 5), .int .i64 (s 6), .int .i64 (s 7)] 100 (0, 0))
theorem FrameIn.slot {W : World} {b : Nat} {k h c : Int} {s : Nat → Int} (hf : FrameIn W b k h c s) (i : Nat) (hi : i < 8) : W.cell? ⟨b, 3 + i, none⟩ = some (.int .i64 (s i)) := by
  rw [cell_of hf]
  match i, hi with
  | 0, _ => rfl
  | 1, _ => rfl
  | 2, _ => rfl
  | 3, _ => rfl
  | 4, _ => rfl
  | 5, _ => rfl
  | 6, _ => rfl
  | 7, _ => rfl

set_option maxRecDepth 100000 in
set_option maxHeartbeats 2000000 in
theorem freeSlots1_in (F : Fence) (n : Nat) (hF : Wide F) (hn : 2 ≤ n) (l : Nat) (K : Nat → Prop) (b : Nat) (kd h c : Int) (s : Nat → Int) (N : Nat) (hN : Ti.slots c = (N : Int)) (c0 : 0 ≤ c) (c2 : c ≤ 2) (J Jx : List (Sl s N) → World → Prop) (W : World)
    (hY : ∀ (pre : List (Sl s N)) (x : Sl s N) W1, J pre W1 → pre.length < N → YieldAt F (n - 1) Tryd.prog l #[.int .i64 (x.1 : Int)] W1 fun e W' =>
      (e = .returned (.bool true) ∧ J (pre ++ [x]) W' ∧ Stay K W1 W') ∨ (e = .returned (.bool false) ∧ Jx (pre ++ [x]) W'))
    (k1 : K b) (hb : FrameIn W b kd h c s) (h0 : J [] W) :
    CallsIn F n Tryd.prog 108 #[.func (.yield l) #[] #[], .pointer (some ⟨b, 0, none⟩)] W fun e W' => (∃ v, e = .returned v) ∧
      ((∃ ys, ys = sls s N N ∧ J ys W') ∨ (∃ pre, (∃ k, k ≤ N ∧ pre = sls s N k) ∧ Jx pre W')) := by
  have hro := hF.round
  have hall := hF.all
  have hd1 : 1 ≤ n := by omega
  have hws := Ti.width_slots c
  have HN : Hid (Ti.slots c = (N : Int)) := hN
  have hN8 : N ≤ 8 := by omega
  clear hN hws
  refine callsIn_of_wp Tryd.func108 rfl (hall _) ?_ hro
  simp only [Tryd.ntmps108, List.size_toArray, List.length_cons, List.length_nil, Nat.reduceAdd, Nat.reduceSub, Array.replicate_succ, Array.replicate_zero, List.push_toArray, List.append_toArray, List.nil_append, List.cons_append]
  have x1 : W.cell? ⟨b, 2, none⟩ = some (.int .i64 c) := by rw [cell_of hb]; rfl
  gi_wp2_with (gi_at_call 109; refine (hF.calls (slotCount_any _ _ c0 c2)).mono ?_; rintro e w' ⟨rfl, rfl⟩; rw [HN.out])
  gi_loopw [3, 7] (fun _ i wr => ∃ k : Nat, k ≤ N ∧ i = .int .i64 k ∧ J (sls s N k) wr ∧ Stay K W wr)
    (fun _ i _ => N - (intOf i).toNat)
  case atStart => exact ⟨0, Nat.zero_le _, rfl, h0, Stay.refl _ _⟩
  case round =>
    clear x1
    obtain ⟨k, hk, rfl, hJs, hst⟩ := hrel
    by_cases hlt : k < N
    · have y1 := FrameIn.slot (show FrameIn wr b kd h c s from hst b _ k1 hb) k (by omega)
      have Hmt : Hid (sls s N (k + 1) = if hm : k < N ∧ s k = 0 then sls s N k ++ [⟨k, hm⟩] else sls s N k) := rfl
      have hlen := sls_len s N k
      have Hst : Hid (Stay K W wr) := hst
      clear hst
      by_cases hm : s k = 0
      · have Hmt' : Hid (sls s N (k + 1) = sls s N k ++ [⟨k, hlt, hm⟩]) := by show _ = _; rw [Hmt.out, dif_pos ⟨hlt, hm⟩]
        obtain ⟨fn, tmps, assign, body, hy, hR⟩ := hY _ ⟨k, hlt, hm⟩ _ hJs (by omega)
        have b0 : (s k == 0) = true := beq_iff_eq.2 hm
        clear Hmt hY
        dsimp only at hy
        gi_wp2
        refine hR.mono ?_
        rintro e W3 (⟨rfl, hJ3, hk3⟩ | ⟨rfl, hJx3⟩)
        · gi_wp2
          go_roundw
          case rel => exact ⟨k + 1, by omega, by go_num, by rw [Hmt'.out]; exact hJ3, Hst.out.trans hk3⟩
          case measure => simp [intOf]; omega
        · gi_wp2
          refine bodyPost_ret (results_none rfl _ _ _) rfl ?_
          exact ⟨⟨_, rfl⟩, .inr ⟨_, ⟨k + 1, by omega, Hmt'.out.symm⟩, hJx3⟩⟩
      · have Hmt' : Hid (sls s N (k + 1) = sls s N k) := by show _ = _; rw [Hmt.out, dif_neg (fun x => hm x.2)]
        have b0 : (s k == 0) = false := beq_eq_false_iff_ne.2 hm
        clear Hmt hY hm
        gi_wp2
        go_roundw
        case rel => exact ⟨k + 1, by omega, by go_num, by rw [Hmt'.out]; exact hJs, Hst.out⟩
        case measure => simp [intOf]; omega
    · obtain rfl : k = N := by omega
      gi_wp2
      go_end0
      exact ⟨⟨_, rfl⟩, .inl ⟨_, rfl, hJs⟩⟩
end Go.Proofs.YtbagfepdmmfegaaDoor

namespace Go.Proofs.YtbagfepdmmfegaaDoor
open Go.RowKit Go.Shelf
attribute [local go_sem] Oper.semAt_some

theorem RoundIn.any {F : Fence} (hd : F.depth = none) {n m : Nat} {P : Program} {l l' : Nat} {f : FuncId} {tmps : Array Value} {assign body : Code} {w : World} {R : Ending → World → Prop} (h : RoundIn F n P l f tmps assign body w R) : RoundIn (F.inRound l') m P l f tmps assign body w R :=
  ⟨h.1, fun c cs _ => h.2 c cs (fun d hd' => by rw [hd] at hd'; cases hd')⟩

def room (S : Ti.St) (i : Nat) : Bool := !((posTo (slotOf S i) 8 : Int) == Ti.slots (pc S i))
def roomy (S : Ti.St) (h c : Int) (l : List (Mi S h c)) : List (Mi S h c) := l.filter fun x => room S x.1
theorem roomy_yes (S : Ti.St) (h c : Int) (l : List (Mi S h c)) (x : Mi S h c) (hx : room S x.1 = true) : roomy S h c (l ++ [x]) = roomy S h c l ++ [x] := by simp [roomy, hx]
theorem roomy_no (S : Ti.St) (h c : Int) (l : List (Mi S h c)) (x : Mi S h c) (hx : room S x.1 = false) : roomy S h c (l ++ [x]) = roomy S h c l := by simp [roomy, hx]

theorem pc_range (S : Ti.St) (hI : Ti.Inv0 S) (i : Nat) : 0 ≤ pc S i ∧ pc S i ≤ 2 := by
  unfold pc
  by_cases h : (S.sup i).is = true
  · rw [if_pos h]; have := hI.sup i h; omega
  · rw [if_neg h]; omega

theorem Stay.size_of {K : Nat → Prop} {A B : World} (h : Stay K A B) (h0 : 0 < A.heap.size) (hk : K (A.heap.size - 1)) : A.heap.size ≤ B.heap.size := by
  have h1 : A.heap[A.heap.size - 1]? = some A.heap[A.heap.size - 1] := Array.getElem?_eq_getElem (by omega)
  have := lt_of_heap (h _ _ hk h1)
  omega
theorem own_le {β : Type} {B B' : Nat} {I : β → World → Prop} (h : OwnFrom B I) (hb : B ≤ B') : OwnFrom B' I := fun s W W' row hs hg hr => h s W W' row hs hg (fun r e => ⟨Nat.le_trans hb (hr r e).1, (hr r e).2⟩)
theorem ownFrom_stay {β : Type} {B : Nat} {K : Nat → Prop} {A : World} (hB : A.heap.size ≤ B) : OwnFrom B (fun (_ : β) W => Stay K A W) := fun _ W W' row hs hg hr k o hk ho =>
  (hg.block k (lt_of_heap (hs k o hk ho)) (fun e => by have := (hr k e.symm).1; have := lt_of_heap ho; omega)).trans (hs k o hk ho)
theorem Ext.grownBy {A B : World} (h : Ext none1 A B) : A.grownBy B none := ⟨h.os, h.tape, h.output, h.size, fun k hk _ => h.block k hk (fun x => x)⟩
theorem own_ext {β : Type} {B : Nat} {I : β → World → Prop} (h : OwnFrom B I) {s : β} {W W' : World} (hs : I s W) (he : Ext none1 W W') : I s W' := h s W W' none hs he.grownBy (fun r e => by cases e)

set_option maxRecDepth 100000 in
set_option maxHeartbeats 4000000 in
theorem withRoom_J (F : Fence) (n : Nat) (hF : Wide F) (hn : 4 ≤ n) (X : Nat → Prop) (m bf bz bm bh bc : Nat) (S : Ti.St) (h c : Int) (hI : Ti.Inv0 S) (w : World)
    (hX : ∀ k, X k → k < w.heap.size) (k1 : ¬ X bm) (k2 : ¬ X bh) (k3 : ¬ X bc) (k4 : ¬ X m) (k5 : ¬ X bf) (k6 : ¬ X bz)
    (hbm : w.heap[bm]? = some (.cells #[.pointer (some ⟨m, 0, none⟩)] 69 (0, 0))) (hbh : w.heap[bh]? = some (.cells #[.int .i64 h] 3 (0, 0))) (hbc : w.heap[bc]? = some (.cells #[.int .i64 c] 3 (0, 0)))
    (hP : PrAt w m bf bz S) :
    SeqJ F n Tryd.prog 113 #[.pointer (some ⟨bm, 0, none⟩), .pointer (some ⟨bh, 0, none⟩), .pointer (some ⟨bc, 0, none⟩)] (fun x : Mi S h c => #[Value.int .i64 (x.1 : Int)]) (fun _ _ => True) (fun l => Stay (but X l)) (fun _ _ => True)
      (fun ys => ys = roomy S h c (mines S h c S.sups.length)) (fun _ => True) w := by
  intro l J Jx W hl hlW hW hJ hJx _ hY h0
  have h1 : 1 ≤ n := by omega
  have hall := hF.all
  have hro := hF.round
  have h16 := hI.f16
  have hS0 : Stay (fun _ => True) w W := fun k o _ ho => (hW.block k (lt_of_heap ho)).trans ho
  have hws := hW.size
  have u1 := lt_of_heap hbm
  have u2 := lt_of_heap hbh
  have u3 := lt_of_heap hbc
  have u4 := lt_of_heap hP.hd
  obtain ⟨_, u5, _⟩ := hP.fr
  have u5 := lt_of_heap u5
  obtain ⟨_, u6, _⟩ := hP.bytes
  have u6 := lt_of_heap u6
  have hbm' := hS0 _ _ trivial hbm
  have hbh' := hS0 _ _ trivial hbh
  have hbc' := hS0 _ _ trivial hbc
  have hP' := hP.stay hS0 trivial trivial trivial
  clear hS0 hbm hbh hbc hP hW
  have x1 : W.cell? ⟨bm, 0, none⟩ = some (.pointer (some ⟨m, 0, none⟩)) := by rw [cell_of hbm']; rfl
  have x2 : W.cell? ⟨bh, 0, none⟩ = some (.int .i64 h) := by rw [cell_of hbh']; rfl
  have x3 : W.cell? ⟨bc, 0, none⟩ = some (.int .i64 c) := by rw [cell_of hbc']; rfl
  have z1 : bm < W.heap.size := by omega
  have z2 : bh < W.heap.size := by omega
  have z3 : bc < W.heap.size := by omega
  refine callsIn_of_wp_marks Tryd.func113 rfl (hall _) ?_ hro
  simp only [Tryd.ntmps113, List.size_toArray, List.length_cons, List.length_nil, Nat.reduceAdd, Nat.reduceSub, Array.replicate_succ, Array.replicate_zero, List.push_toArray, List.append_toArray, List.nil_append, List.cons_append]
  gi_wp2_with (gi_at_call 49; refine (superblocks_in F _ (hall _) hro _ _ _ _).mono ?_; rintro e w' ⟨rfl, rfl⟩)
  have hb0 := heap_alloc_new W (.cells #[.func (.yield l) #[] #[]] 104)
  have hb3 := heap3 (W.alloc (.cells #[.func (.yield l) #[] #[]] 104)) (.cells #[.pointer (some ⟨m, 0, none⟩)] 69) (.cells #[.int .i64 h] 3) (.cells #[.int .i64 c] 3)
  have hEB : Ext none1 (W.alloc (.cells #[.func (.yield l) #[] #[]] 104)) ((((W.alloc (.cells #[.func (.yield l) #[] #[]] 104)).alloc (.cells #[.pointer (some ⟨m, 0, none⟩)] 69)).alloc (.cells #[.int .i64 h] 3)).alloc (.cells #[.int .i64 c] 3)) := (((Ext.refl _ _).alloc _).alloc _).alloc _
  have hs1 : ((((W.alloc (.cells #[.func (.yield l) #[] #[]] 104)).alloc (.cells #[.pointer (some ⟨m, 0, none⟩)] 69)).alloc (.cells #[.int .i64 h] 3)).alloc (.cells #[.int .i64 c] 3)).heap.size = W.heap.size + 4 := by simp
  have hE1 : Ext none1 W ((((W.alloc (.cells #[.func (.yield l) #[] #[]] 104)).alloc (.cells #[.pointer (some ⟨m, 0, none⟩)] 69)).alloc (.cells #[.int .i64 h] 3)).alloc (.cells #[.int .i64 c] 3)) := ((((Ext.refl _ _).alloc _).alloc _).alloc _).alloc _
  have g0 := hEB.keep hb0 (fun x => x)
  simp only [World.size_alloc] at hb3
  clear hEB hb0
  generalize ((((W.alloc (.cells #[.func (.yield l) #[] #[]] 104)).alloc (.cells #[.pointer (some ⟨m, 0, none⟩)] 69)).alloc (.cells #[.int .i64 h] 3)).alloc (.cells #[.int .i64 c] 3)) = w1 at *
  have hXl : ∀ k, (X k ∨ k = l) → k < W.heap.size := by
    rintro k (hk | rfl)
    · have := hX k hk; omega
    · exact hlW
  refine range_J hro h1 (gf := 74) (lb := #[.pointer (some ⟨W.heap.size + 1, 0, none⟩), .pointer (some ⟨W.heap.size + 1 + 1, 0, none⟩), .pointer (some ⟨W.heap.size + 1 + 2, 0, none⟩)]) rfl (hall _) (enters_of Tryd.func74 (by kernel_rfl) rfl)
    (superblocks_J F (n - 1) (hall _) hro (by omega) (fun k => X k ∨ k = l) m bf bz (W.heap.size + 1) (W.heap.size + 1 + 1) (W.heap.size + 1 + 2) S h c h16 w1 (fun hk => by have := hXl _ hk; omega) (fun hk => by have := hXl _ hk; omega) (fun hk => by have := hXl _ hk; omega)
      (by rintro (hk | hk); exact k4 hk; omega) (by rintro (hk | hk); exact k5 hk; omega) (by rintro (hk | hk); exact k6 hk; omega) hb3.1 hb3.2.1 hb3.2.2 (hP'.keep0 hE1))
    (fun a b => a.trans b) (fun W l o _ => stay_put _ W l o) (fun _ => rfl)
    (fun pre V => V.heap[W.heap.size]? = some (.cells #[.func (.yield l) #[] #[]] 104 (0, 0)) ∧ J (roomy S h c pre) V ∧ Stay (but X l) W V)
    (fun cd _ V => cd = .ret ∧ ∃ pre', Jx pre' V)
    (OwnFrom.and (ownFrom_block (by omega) _) (OwnFrom.and (fun s A B row hs hg hr => (own_le hJ (by omega : W.heap.size ≤ w1.heap.size)) _ A B row hs hg hr) (ownFrom_stay (by omega))))
    (fun cd s A B row hs hg hr => ⟨hs.1, let ⟨p', hp'⟩ := hs.2; ⟨p', (own_le hJx (by omega : W.heap.size ≤ w1.heap.size)) p' A B row hp' hg hr⟩⟩) (fun _ _ _ => trivial)
    ⟨g0, own_ext hJ h0 hE1, Stay.of_ext hE1 (fun _ _ x => x)⟩
    (fun x => { tmps := #[.func (.yield l) #[] #[], .pointer (some ⟨bm, 0, none⟩), .pointer (some ⟨bh, 0, none⟩), .pointer (some ⟨bc, 0, none⟩), .pointer (some ⟨W.heap.size, 0, none⟩), .int .i64 (x.1 : Int), .pointer (some ⟨m, 0, none⟩), .int .i64 h, .int .i64 c, .func (.func 74) #[] #[.pointer (some ⟨W.heap.size + 1, 0, none⟩), .pointer (some ⟨W.heap.size + 1 + 1, 0, none⟩), .pointer (some ⟨W.heap.size + 1 + 2, 0, none⟩)], .int .i64 (x.1 : Int), undef, undef, undef, undef, undef, undef, undef, undef, undef, undef, undef, undef, undef, undef, undef], defers := [] }) ?assign ?body ?done ?stop
  case assign =>
    intro l x W K hK
    gi_wp2
    simpa using hK
  case body =>
    rintro l' pre x V hll ⟨e0, hJv, hSv⟩ hlt
    have b1 := hSv _ _ ⟨k1, by omega⟩ hbm'
    have hPV := hP'.stay hSv ⟨k4, by omega⟩ ⟨k5, by omega⟩ ⟨k6, by omega⟩
    have y1 : V.cell? ⟨bm, 0, none⟩ = some (.pointer (some ⟨m, 0, none⟩)) := by rw [cell_of b1]; rfl
    have y2 := hPV.c2
    have y3 := cell_of e0 0
    simp at y3
    obtain ⟨q0, q1, q2, q3, q4, q5, q6, q7, q8, q9, q10⟩ := hPV.fc x.1 x.2.1
    have hxl : (x.1 : Int) < S.sups.length := by have := x.2.1; omega
    have hxl' := x.2.1
    obtain ⟨c0, c2⟩ := pc_range S hI x.1
    have hd1 : 1 ≤ n - 1 - 1 := by omega
    clear x1 x2 x3
    gi_wp2_with fail
    refine (CallsIn.inRound l' (hF.calls (full_any _ _ _ (slotOf S x.1) _ c0 c2))).mono ?_
    rintro e V2 ⟨rfl, hE2⟩
    have f0 := hE2.keep e0 (fun x => x)
    have hJ2 : J (roomy S h c pre) V2 := own_ext hJ hJv hE2
    have hS2 : ∀ K, Stay K V V2 := fun K => Stay.of_ext hE2 (fun _ _ x => x)
    have y4 := cell_of f0 0
    simp at y4
    have hK2 : KeepsFrom w1.heap.size V V2 := ⟨hE2.size, fun k o _ ho _ => hE2.keep ho (fun x => x)⟩
    have Hroom : Hid (room S x.1 = !((posTo (slotOf S x.1) 8 : Int) == Ti.slots (pc S x.1))) := rfl
    generalize ((posTo (slotOf S x.1) 8 : Int) == Ti.slots (pc S x.1)) = full at *
    cases full
    · have Hr : Hid (roomy S h c (pre ++ [x]) = roomy S h c pre ++ [x]) := roomy_yes S h c pre x Hroom.out
      obtain ⟨fn, tmps, assign, body, hy, hR⟩ := hY _ x V2 hJ2 trivial
      have hf2 := lt_of_heap f0
      clear hY
      gi_wp2
      refine (RoundIn.any hF.depth hR).mono ?_
      rintro e V3 (⟨rfl, hJ3, hk3⟩ | ⟨rfl, hJx3, hk3⟩)
      · gi_wp2
        refine ⟨?_, ?_, hk3 _ _ ⟨fun hk => by have := hX _ hk; omega, by omega⟩ f0, by rw [Hr.out]; exact hJ3, (hSv.trans (hS2 _)).trans hk3⟩
        · refine hK2.trans ⟨?_, fun k o hk ho _ => hk3 k o ⟨fun hx => by have := hX _ hx; omega, by omega⟩ ho⟩
          exact hk3.size_of (by omega) ⟨fun hk => by have := hX _ hk; omega, by omega⟩
        · exact (hS2 _).trans (hk3.mono (fun k hk => ⟨fun hx => hk.1 (.inl hx), fun hx => hk.1 (.inr hx)⟩))
      · gi_wp2
        exact ⟨hK2.trans ⟨hk3.size, fun k o hk ho hc => hk3.same k o (by omega) ho hc⟩, rfl, _, hJx3⟩
    · have Hr : Hid (roomy S h c (pre ++ [x]) = roomy S h c pre) := roomy_no S h c pre x Hroom.out
      gi_wp2
      exact ⟨hK2, hS2 _, f0, by rw [Hr.out]; exact hJ2, hSv.trans (hS2 _)⟩
  case done =>
    rintro D ys V hD rfl ⟨e0, hJv, hSv⟩ hKd
    gi_wp2
    refine ⟨by simp, .inl ⟨_, _, rfl, run_takeDeferred hKd, ?_⟩⟩
    exact ⟨_, results_none rfl _ _ _, ⟨_, rfl⟩, .inl ⟨_, rfl, OwnFrom.putObj hJ _ hJv (by omega) hKd rfl⟩⟩
  case stop =>
    rintro D cd pre V hD _ ⟨rfl, pre', hj⟩ hKd
    gi_wp2
    refine ⟨by simp, .inl ⟨_, _, rfl, run_takeDeferred hKd, ?_⟩⟩
    exact ⟨_, results_none rfl _ _ _, ⟨_, rfl⟩, .inr ⟨_, trivial, OwnFrom.putObj hJx _ hj (by omega) hKd rfl⟩⟩
end Go.Proofs.YtbagfepdmmfegaaDoor
