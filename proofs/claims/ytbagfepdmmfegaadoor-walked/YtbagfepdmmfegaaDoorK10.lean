import Derived.Test.YtbagfepdmmfegaaDoorK09
import Derived.BigQuiet
set_option linter.unusedVariables false
set_option linter.unusedSimpArgs false
namespace Go.Proofs.YtbagfepdmmfegaaDoor
open Go.RowKit Go.Shelf

theorem mines_len16 (S : Ti.St) (h c : Int) : (mines S h c S.sups.length).length ≤ S.sups.length := by
  have h1 := held_len S h c S.sups.length
  have h2 := held_bd S h c S.sups.length
  rw [← mines_map S h c _ (Nat.le_refl _), List.length_map] at h1
  omega

set_option maxRecDepth 100000 in
set_option maxHeartbeats 4000000 in
theorem holdsTooMuch_any (w : World) (m bf bz : Nat) (S : Ti.St) (h c : Int) (hP : PrAt w m bf bz S) (hI : Ti.Inv0 S) (c0 : 0 ≤ c) (c2 : c ≤ 2) (s0 : 0 ≤ S.slack) (s1 : S.slack ≤ 1000) :
    Calls Tryd.prog 78 #[.pointer (some ⟨m, 0, none⟩), .int .i64 h, .int .i64 c] w fun e w' => e = .returned (.bool (S.tooMuch h c)) ∧ Ext none1 w w' := by
  have h16 := hI.f16
  have hb1 : 0 ≤ S.held h c ∧ S.held h c ≤ 1024 := by have := held_bd S h c S.sups.length; unfold Ti.St.held; omega
  have hb2 : 0 ≤ S.charged h c ∧ S.charged h c ≤ 4096 := by
    have h1 := chg_all S hI h c
    have h2 := chg_bd S h c (mines S h c S.sups.length)
    have h3 := mines_len16 S h c
    omega
  have H1 : Hid _ := statsM_any w m bf bz S h c hP hI c0 c2
  have H3 : Hid (∀ w1, Ext none1 w w1 → _) := fun w1 hE => cell_of (hP.keep0 hE).hd 1
  have hml := lt_of_heap hP.hd
  unfold Ti.St.tooMuch
  generalize S.held h c = hl at *
  generalize S.charged h c = ch at *
  clear hP hI
  go_enter Tryd.func78, Tryd.ntmps78
  go_wp2_with fail
  refine Calls.mono H1.out ?_
  rintro e w1 ⟨rfl, hE1⟩
  have y := H3.out w1 hE1
  simp at y
  have hs1 : m < w1.heap.size := Nat.lt_of_lt_of_le hml hE1.size
  clear H1 H3
  by_cases hh : ch + 64 * S.slack < hl
  · have d1 : decide (hl > ch + 64 * S.slack) = true := decide_eq_true hh
    by_cases hk : 2 * ch < hl
    all_goals
      go_wp2_with fail
      go_quiet (fail)
      go_wp2_with fail
      go_ret
      exact ⟨by simp [hh, hk], (hE1.alloc _).trans (Ext.of_below (below_drewN (Below.refl _ _) _))⟩
  · have d1 : decide (hl > ch + 64 * S.slack) = false := decide_eq_false hh
    go_wp2_with fail
    go_quiet (fail)
    go_wp2_with fail
    go_ret
    exact ⟨by rw [show decide (ch + 64 * S.slack < hl) = false from d1]; rfl, (hE1.alloc _).trans (Ext.of_below (below_drewN (Below.refl _ _) _))⟩

theorem superblocksMk_any (m : Nat) (h c : Int) (w : World) :
    Calls Tryd.prog 49 #[.pointer (some ⟨m, 0, none⟩), .int .i64 h, .int .i64 c] w fun e w' =>
      e = .returned (.func (.func 74) #[] #[.pointer (some ⟨w.heap.size, 0, none⟩), .pointer (some ⟨w.heap.size + 1, 0, none⟩), .pointer (some ⟨w.heap.size + 2, 0, none⟩)]) ∧
      w' = ((w.alloc (.cells #[.pointer (some ⟨m, 0, none⟩)] 69)).alloc (.cells #[.int .i64 h] 3)).alloc (.cells #[.int .i64 c] 3) :=
  (callsIn_wide (n := 9)).1 (superblocks_in Fence.wide 9 trivial rfl m h c w)

set_option maxRecDepth 100000 in
set_option maxHeartbeats 4000000 in
theorem giveEmptiestAway_any (w : World) (m bf bz : Nat) (S : Ti.St) (h c : Int) (hP : PrAt w m bf bz S) (hne : m ≠ bf ∧ bf ≠ bz) (hI : Ti.Inv0 S) (f : Nat) (hf : f < S.sups.length) (he : S.emptiest h c = (f : Int)) (hm : S.mine h c f = true) :
    Calls Tryd.prog 79 #[.pointer (some ⟨m, 0, none⟩), .int .i64 h, .int .i64 c] w fun e w' =>
      e = .returned (.tuple #[]) ∧ PrAt w' m bf bz (S.setSup f { S.sup f with heap := 0 }) ∧ Ext (one bf) w w' := by
  have h16 := hI.f16
  go_enter Tryd.func79, Tryd.ntmps79
  go_wp2_with (go_at_call 49; refine (superblocksMk_any _ _ _ _).mono ?_; rintro e w' ⟨rfl, rfl⟩)
  have hb3 := heap3 (w.alloc (.cells #[.pointer (some ⟨m, 0, none⟩)] 69)) (.cells #[.pointer (some ⟨m, 0, none⟩)] 69) (.cells #[.int .i64 h] 3) (.cells #[.int .i64 c] 3)
  have hEB : Ext none1 (w.alloc (.cells #[.pointer (some ⟨m, 0, none⟩)] 69)) ((((w.alloc (.cells #[.pointer (some ⟨m, 0, none⟩)] 69)).alloc (.cells #[.pointer (some ⟨m, 0, none⟩)] 69)).alloc (.cells #[.int .i64 h] 3)).alloc (.cells #[.int .i64 c] 3)) := (((Ext.refl _ _).alloc _).alloc _).alloc _
  have g0 := hEB.keep (heap_alloc_new w _) (fun x => x)
  have hE1 : Ext none1 w ((((w.alloc (.cells #[.pointer (some ⟨m, 0, none⟩)] 69)).alloc (.cells #[.pointer (some ⟨m, 0, none⟩)] 69)).alloc (.cells #[.int .i64 h] 3)).alloc (.cells #[.int .i64 c] 3)) := ((((Ext.refl _ _).alloc _).alloc _).alloc _).alloc _
  simp only [World.size_alloc] at hb3
  clear hEB
  generalize ((((w.alloc (.cells #[.pointer (some ⟨m, 0, none⟩)] 69)).alloc (.cells #[.pointer (some ⟨m, 0, none⟩)] 69)).alloc (.cells #[.int .i64 h] 3)).alloc (.cells #[.int .i64 c] 3)) = w1 at *
  have hP1 := hP.keep0 hE1
  have v0 := lt_of_heap g0
  have v1 := lt_of_heap hb3.1
  have v2 := lt_of_heap hb3.2.1
  have v3 := lt_of_heap hb3.2.2
  have v4 := lt_of_heap hP1.hd
  obtain ⟨_, v5, _⟩ := hP1.fr
  have v5 := lt_of_heap v5
  obtain ⟨_, v6, _⟩ := hP1.bytes
  have v6 := lt_of_heap v6
  have hbest := (callsIn_wide (n := 9)).1 (best_in Fence.wide 9 Wide.wide (by omega) w1 74 101 #[.pointer (some ⟨w.heap.size + 1, 0, none⟩), .pointer (some ⟨w.heap.size + 1 + 1, 0, none⟩), .pointer (some ⟨w.heap.size + 1 + 2, 0, none⟩)] #[.pointer (some ⟨w.heap.size, 0, none⟩)]
    (fun x : Mi S h c => (x.1 : Int)) (mines S h c S.sups.length) (fun pre => ∃ k, k ≤ S.sups.length ∧ pre = mines S h c k) (fun pre _ => pre.length < S.sups.length) (emptier S h c) (enters_of Tryd.func74 (by kernel_rfl) rfl) (enters_of Tryd.func101 (by kernel_rfl) rfl)
    (fun w2 hB hs => by
      have hS : Stay (fun _ => True) w1 w2 := fun k o _ ho => (hB.block k (lt_of_heap ho)).trans ho
      refine superblocks_J Fence.wide 8 trivial rfl (by omega) (two (w1.heap.size + 1) (w1.heap.size + 2)) m bf bz (w.heap.size + 1) (w.heap.size + 1 + 1) (w.heap.size + 1 + 2) S h c hI.f16 w2 ?_ ?_ ?_ ?_ ?_ ?_ (hS _ _ trivial hb3.1) (hS _ _ trivial hb3.2.1) (hS _ _ trivial hb3.2.2) (hP1.stay hS trivial trivial trivial)
      all_goals rintro (e | e) <;> omega)
    (fun x y W k hB => by
      have hS : Stay (fun _ => True) w1 W := fun k o _ ho => (hB.block k (lt_of_heap ho)).trans ho
      exact Wide.wide.calls (emptier_any W m bf bz w.heap.size S x.1 y.1 (hP1.stay hS trivial trivial trivial) hI.f16 x.2.1 y.2.1 (hS _ _ trivial g0))))
  rw [(best_val2 S hI h c).1, (best_val2 S hI h c).2] at hbest
  rw [he] at hbest
  have hz : orZ (f : Int) = (f : Int) := by simp [orZ]
  have hd : decide (0 ≤ (f : Int)) = true := by simp
  rw [hz, hd] at hbest
  refine hbest.mono ?_
  rintro e w9 ⟨rfl, hE9⟩
  clear hbest
  have g9 := cell_of (hE9.keep g0 (fun x => x)) 0
  simp at g9
  have hP9 := hP1.keep0 hE9
  have y2 := hP9.c2
  have hf' : (f : Int) < S.sups.length := by omega
  obtain ⟨q0, q1, q2, q3, q4, q5, q6, q7, q8, q9, q10⟩ := hP9.fc f hf
  have qf := hP9.ff (f * 11 + 1)
  have hE19 := hE1.trans hE9
  go_wp2_with fail
  exact ⟨rfl, _, results_none rfl _ _ _, rfl, hP9.setHeap hne f hf (mi_is hm).1 0, Ext.setCell (X := one bf) (Ext.mono hE19 (fun _ _ x => x.elim)) ⟨bf, f * 11 + 1, none⟩ (.inl rfl) _⟩
end Go.Proofs.YtbagfepdmmfegaaDoor

namespace Go.Proofs.YtbagfepdmmfegaaDoor
open Go.RowKit Go.Shelf

theorem pk_of {S T : Ti.St} {f : Nat} (h : T.sup f = S.sup f) (hb : T.blocks = S.blocks) : pk T f = pk S f := by unfold pk; rw [h, hb]
theorem ph_of {S T : Ti.St} {f : Nat} (h : T.sup f = S.sup f) : ph T f = ph S f := by unfold ph; rw [h]
theorem pc_of {S T : Ti.St} {f : Nat} (h : T.sup f = S.sup f) : pc T f = pc S f := by unfold pc; rw [h]
theorem slot_of {S T : Ti.St} {f : Nat} (h : T.sup f = S.sup f) (hb : T.blocks = S.blocks) (j : Nat) : slotOf T f j = slotOf S f j := by unfold slotOf; rw [h, hb]

set_option maxRecDepth 100000 in
set_option maxHeartbeats 2000000 in
/-- the superblocks, where the one who ranges changes those that were told -/
theorem superblocksW_J (F : Fence) (n : Nat) (hF : F.fn 74) (hro : F.round = none) (hn : 1 ≤ n) (X : Nat → Prop) (m bf bz bm bh bc : Nat) (S : Ti.St) (h c : Int) (h16 : S.sups.length ≤ 16) (w : World)
    (G : List (Mi S h c) → Ti.St) (hG1 : ∀ pre, (G pre).sups.length = S.sups.length) (hG2 : ∀ k j, k ≤ S.sups.length → k ≤ j → (G (mines S h c k)).sup j = S.sup j) (hG3 : ∀ pre, (G pre).blocks = S.blocks)
    (k1 : ¬ X bm) (k2 : ¬ X bh) (k3 : ¬ X bc)
    (hbm : w.heap[bm]? = some (.cells #[.pointer (some ⟨m, 0, none⟩)] 69 (0, 0))) (hbh : w.heap[bh]? = some (.cells #[.int .i64 h] 3 (0, 0))) (hbc : w.heap[bc]? = some (.cells #[.int .i64 c] 3 (0, 0))) :
    SeqJ F n Tryd.prog 74 #[.pointer (some ⟨bm, 0, none⟩), .pointer (some ⟨bh, 0, none⟩), .pointer (some ⟨bc, 0, none⟩)] (fun x : Mi S h c => #[Value.int .i64 (x.1 : Int)]) (fun pre x => pre = mines S h c x.1) (fun l => Stay (but X l)) (fun pre W1 => PrAt W1 m bf bz (G pre)) (fun ys => ys = mines S h c S.sups.length)
      (fun pre => ∃ k, k ≤ S.sups.length ∧ pre = mines S h c k) w := by
  intro l J Jx W hl hlW hW hJ hJx hRd hY h0
  have k1 : but X l bm := ⟨k1, by have := lt_of_heap hbm; omega⟩
  have k2 : but X l bh := ⟨k2, by have := lt_of_heap hbh; omega⟩
  have k3 : but X l bc := ⟨k3, by have := lt_of_heap hbc; omega⟩
  have hbm := (hW.block bm (lt_of_heap hbm)).trans hbm
  have hbh := (hW.block bh (lt_of_heap hbh)).trans hbh
  have hbc := (hW.block bc (lt_of_heap hbc)).trans hbc
  refine callsIn_of_wp Tryd.func74 rfl hF ?_ hro
  simp only [Tryd.ntmps74, List.size_toArray, List.length_cons, List.length_nil, Nat.reduceAdd, Nat.reduceSub, Array.replicate_succ, Array.replicate_zero, List.push_toArray, List.append_toArray, List.nil_append, List.cons_append]
  have x1 : W.cell? ⟨bm, 0, none⟩ = some (.pointer (some ⟨m, 0, none⟩)) := by rw [cell_of hbm]; rfl
  have hP := hRd _ _ h0
  have x2 := hP.c2
  rw [hG1] at x2
  gi_wp2
  gi_loopw [5, 6, 7, 13] (fun _ _ _ i wr => ∃ k : Nat, k ≤ S.sups.length ∧ i = .int .i64 k ∧ J (mines S h c k) wr ∧ Stay (but X l) W wr)
    (fun _ _ _ i _ => S.sups.length - (intOf i).toNat)
  case atStart => exact ⟨0, Nat.zero_le _, rfl, h0, Stay.refl _ _⟩
  case round =>
    clear x1 x2
    obtain ⟨k, hk, rfl, hJs, hst⟩ := hrel
    have hPr := hRd _ _ hJs
    have t1 := hst bm _ k1 hbm
    have t2 := hst bh _ k2 hbh
    have t3 := hst bc _ k3 hbc
    have y1 : wr.cell? ⟨bm, 0, none⟩ = some (.pointer (some ⟨m, 0, none⟩)) := by rw [cell_of t1]; rfl
    have y2 : wr.cell? ⟨bh, 0, none⟩ = some (.int .i64 h) := by rw [cell_of t2]; rfl
    have y3 : wr.cell? ⟨bc, 0, none⟩ = some (.int .i64 c) := by rw [cell_of t3]; rfl
    have y4 := hPr.c2
    rw [hG1] at y4
    have z1 := lt_of_heap t1
    have z2 := lt_of_heap t2
    have z3 := lt_of_heap t3
    have z4 := lt_of_heap hPr.hd
    clear t1 t2 t3
    by_cases hlt : k < S.sups.length
    · obtain ⟨q0, q1, q2, q3, q4, q5, q6, q7, q8, q9, q10⟩ := hPr.fc k (by rw [hG1]; exact hlt)
      rw [pk_of (hG2 k k hk (Nat.le_refl _)) (hG3 _)] at q0
      rw [ph_of (hG2 k k hk (Nat.le_refl _))] at q1
      rw [pc_of (hG2 k k hk (Nat.le_refl _))] at q2
      simp only [slot_of (hG2 k k hk (Nat.le_refl _)) (hG3 _)] at q3 q4 q5 q6 q7 q8 q9 q10
      have Hou : Hid (((pk S k == 1) && (ph S k == h) && (pc S k == c)) = S.mine h c k) := ours_eq S h c k
      have Hmt : Hid (mines S h c (k + 1) = if hm : k < S.sups.length ∧ S.mine h c k = true then mines S h c k ++ [⟨k, hm⟩] else mines S h c k) := rfl
      have hJal : ∀ o, J (mines S h c k) (wr.alloc o) := fun o => hJ _ _ _ none hJs (World.grownBy_alloc wr o none) (fun r e => by cases e)
      cases hm : S.mine h c k
      · have Hmt' : Hid (mines S h c (k + 1) = mines S h c k) := by show _ = _; rw [Hmt.out, dif_neg (fun x => by have := x.2; rw [hm] at this; cases this)]
        have Hou' : Hid (((pk S k == 1) && (ph S k == h) && (pc S k == c)) = false) := by show _ = _; rw [Hou.out, hm]
        have hre : Hid (∀ o, (∃ j : Nat, j ≤ S.sups.length ∧ Value.int IntKind.i64 (↑k + 1) = .int .i64 j ∧ J (mines S h c j) (wr.alloc o) ∧ Stay (but X l) W (wr.alloc o))) := fun o => ⟨k + 1, by omega, by go_num, by rw [Hmt'.out]; exact hJal o, hst.alloc o⟩
        clear Hmt Hmt' Hou hm hJal hY hJ
        generalize pk S k = a0 at *
        generalize ph S k = a1 at *
        generalize pc S k = a2 at *
        cases b0 : (a0 == 1)
        · gi_wp2
          refine ⟨fun _ h => (by cases h), ?_⟩
          gi_wp2
          go_roundw
          case rel => exact hre.out _
          case measure => simp [intOf]; omega
        · cases b1 : (a1 == h)
          · gi_wp2
            refine ⟨fun _ h => (by cases h), ?_⟩
            gi_wp2
            go_roundw
            case rel => exact hre.out _
            case measure => simp [intOf]; omega
          · have b2 : (a2 == c) = false := by have := Hou'.out; rw [b0, b1] at this; simpa using this
            gi_wp2
            refine ⟨fun _ h => (by cases h), ?_⟩
            gi_wp2
            go_roundw
            case rel => exact hre.out _
            case measure => simp [intOf]; omega
      · have Hmt' : Hid (mines S h c (k + 1) = mines S h c k ++ [⟨k, hlt, hm⟩]) := by show _ = _; rw [Hmt.out, dif_pos ⟨hlt, hm⟩]
        have Hou' := Hou.out
        rw [hm] at Hou'
        simp only [Bool.and_eq_true] at Hou'
        obtain ⟨⟨b0, b1⟩, b2⟩ := Hou'
        obtain ⟨fn, tmps, assign, body, hy, hR⟩ := hY _ ⟨k, hlt, hm⟩ _ (hJal (.cells #[.int .i64 (pk S k), .int .i64 (ph S k), .int .i64 (pc S k), .int .i64 (slotOf S k 0), .int .i64 (slotOf S k 1), .int .i64 (slotOf S k 2), .int .i64 (slotOf S k 3), .int .i64 (slotOf S k 4), .int .i64 (slotOf S k 5), .int .i64 (slotOf S k 6), .int .i64 (slotOf S k 7)] 100)) rfl
        have hsta : Hid (∀ o, Stay (but X l) W (wr.alloc o)) := fun o => hst.alloc o
        clear Hmt Hou hJal hY hJ
        dsimp only at hy
        gi_wp2
        refine hR.mono ?_
        rintro e W3 (⟨rfl, hJ3, hk3⟩ | ⟨rfl, hJx3, _⟩)
        · gi_wp2
          go_roundw
          case rel => exact ⟨k + 1, by omega, by go_num, by rw [Hmt'.out]; exact hJ3, (hsta.out _).trans hk3⟩
          case measure => simp [intOf]; omega
        · gi_wp2
          refine bodyPost_ret (results_none rfl _ _ _) rfl ?_
          exact ⟨⟨_, rfl⟩, .inr ⟨_, ⟨k + 1, by omega, Hmt'.out.symm⟩, hJx3⟩⟩
    · obtain rfl : k = S.sups.length := by omega
      gi_wp2
      go_end0
      exact ⟨⟨_, rfl⟩, .inl ⟨_, rfl, hJs⟩⟩
end Go.Proofs.YtbagfepdmmfegaaDoor

namespace Go.Proofs.YtbagfepdmmfegaaDoor
open Go.RowKit Go.Shelf
attribute [local go_sem] Oper.semAt_some

theorem own_pr {β : Type} {B m bf bz : Nat} (G : β → Ti.St) (h1 : m < B) (h2 : bf < B) (h3 : bz < B) : OwnFrom B (fun s W => PrAt W m bf bz (G s)) := fun s W W' row hs hg hr => by
  have key : ∀ k o, k < B → W.heap[k]? = some o → W'.heap[k]? = some o := fun k o hk ho => (hg.block k (lt_of_heap ho) (fun e => by have := (hr k e.symm).1; omega)).trans ho
  exact ⟨key _ _ h1 hs.hd, let ⟨c, a, b⟩ := hs.fr; ⟨c, key _ _ h2 a, b⟩, let ⟨c, a, b⟩ := hs.bytes; ⟨c, key _ _ h3 a, b⟩⟩
theorem own_ext2 {β : Type} {B : Nat} {X : Nat → Prop} {w : World} (hB : w.heap.size ≤ B) : OwnFrom B (fun (_ : β) W => Ext X w W) := fun _ _ _ _ hs hg hr =>
  hs.grown hg (fun k e => .inr (Nat.le_trans hB (hr k e).1))

/-- those told that are empty are none any more -/
def emp (S : Ti.St) (h c : Int) : List (Mi S h c) → Ti.St
  | [] => S
  | x :: r => if S.used x.1 = 0 then (emp S h c r).setSup x.1 Ti.sup0 else emp S h c r
theorem emp_same (S : Ti.St) (h c : Int) (l : List (Mi S h c)) : (emp S h c l).sups.length = S.sups.length ∧ (emp S h c l).blocks = S.blocks ∧ (emp S h c l).bytes = S.bytes ∧ (emp S h c l).heaps = S.heaps ∧ (emp S h c l).slack = S.slack := by
  induction l with
  | nil => exact ⟨rfl, rfl, rfl, rfl, rfl⟩
  | cons x r ih =>
    simp only [emp]
    split
    · exact ⟨by rw [Ti.len_setSup]; exact ih.1, ih.2.1, ih.2.2.1, ih.2.2.2.1, ih.2.2.2.2⟩
    · exact ih
theorem emp_sup (S : Ti.St) (h c : Int) (l : List (Mi S h c)) (j : Nat) : (emp S h c l).sup j = if (∃ x ∈ l, x.1 = j) ∧ S.used j = 0 then Ti.sup0 else S.sup j := by
  induction l with
  | nil => simp [emp]
  | cons x r ih =>
    simp only [emp]
    have hx : x.1 < (emp S h c r).sups.length := by rw [(emp_same S h c r).1]; exact x.2.1
    by_cases hu : S.used x.1 = 0
    · rw [if_pos hu, Ti.sup_setSup _ _ _ _ hx]
      by_cases e : j = x.1
      · subst e; rw [if_pos rfl, if_pos ⟨⟨x, by simp, rfl⟩, hu⟩]
      · rw [if_neg e, ih]
        have : (∃ y ∈ r, y.1 = j) ↔ (∃ y ∈ x :: r, y.1 = j) := by
          constructor
          · rintro ⟨y, a, b⟩; exact ⟨y, by simp [a], b⟩
          · rintro ⟨y, a, b⟩
            rcases List.mem_cons.1 a with rfl | a
            · exact absurd b.symm e
            · exact ⟨y, a, b⟩
        simp only [this]
    · rw [if_neg hu, ih]
      by_cases e : j = x.1
      · subst e; rw [if_neg (fun hh => hu hh.2), if_neg (fun hh => hu hh.2)]
      · have : (∃ y ∈ r, y.1 = j) ↔ (∃ y ∈ x :: r, y.1 = j) := by
          constructor
          · rintro ⟨y, a, b⟩; exact ⟨y, by simp [a], b⟩
          · rintro ⟨y, a, b⟩
            rcases List.mem_cons.1 a with rfl | a
            · exact absurd b.symm e
            · exact ⟨y, a, b⟩
        simp only [this]
theorem mem_mines (S : Ti.St) (h c : Int) (k : Nat) (x : Mi S h c) : x ∈ mines S h c k ↔ x.1 < k := by
  induction k with
  | zero => simp [mines]
  | succ k ih =>
    simp only [mines]
    by_cases hm : k < S.sups.length ∧ S.mine h c k = true
    · rw [dif_pos hm]
      simp only [List.mem_append, List.mem_singleton, ih]
      constructor
      · rintro (a | rfl)
        · omega
        · exact Nat.lt_succ_self _
      · intro a
        by_cases e : x.1 = k
        · right; exact Subtype.ext e
        · left; omega
    · rw [dif_neg hm, ih]
      constructor
      · omega
      · intro a
        by_cases e : x.1 = k
        · exact absurd (e ▸ x.2) hm
        · omega
theorem st_ext {S T : Ti.St} (h1 : S.heaps = T.heaps) (h2 : S.slack = T.slack) (h3 : S.blocks = T.blocks) (h4 : S.bytes = T.bytes) (h5 : S.sups.length = T.sups.length) (h6 : ∀ k, k < S.sups.length → S.sup k = T.sup k) : S = T := by
  cases S with | mk a b cs d e =>
  cases T with | mk a' b' cs' d' e' =>
  simp only at h1 h2 h3 h4 h5
  subst h1 h2 h3 h4
  congr 1
  apply List.ext_getElem h5
  intro i p q
  have := h6 i p
  simpa [Ti.St.sup, p, q] using this
theorem emp_snoc (S : Ti.St) (h c : Int) (l : List (Mi S h c)) (x : Mi S h c) : emp S h c (l ++ [x]) = if S.used x.1 = 0 then (emp S h c l).setSup x.1 Ti.sup0 else emp S h c l := by
  have a := emp_same S h c (l ++ [x])
  have b := emp_same S h c l
  have hx : x.1 < (emp S h c l).sups.length := by rw [b.1]; exact x.2.1
  by_cases hu : S.used x.1 = 0
  · rw [if_pos hu]
    refine st_ext (by rw [a.2.2.2.1]; exact b.2.2.2.1.symm) (by rw [a.2.2.2.2]; exact b.2.2.2.2.symm) (by rw [a.2.1]; exact b.2.1.symm) (by rw [a.2.2.1]; exact b.2.2.1.symm) (by rw [a.1, Ti.len_setSup, b.1]) (fun k _ => ?_)
    rw [emp_sup, Ti.sup_setSup _ _ _ _ hx, emp_sup]
    by_cases e : k = x.1
    · subst e; rw [if_pos ⟨⟨x, by simp, rfl⟩, hu⟩, if_pos rfl]
    · rw [if_neg e]
      have : (∃ y ∈ l ++ [x], y.1 = k) ↔ (∃ y ∈ l, y.1 = k) := by
        constructor
        · rintro ⟨y, p, q⟩
          rcases List.mem_append.1 p with p | p
          · exact ⟨y, p, q⟩
          · rw [List.mem_singleton.1 p] at q; exact absurd q.symm e
        · rintro ⟨y, p, q⟩; exact ⟨y, List.mem_append_left _ p, q⟩
      simp only [this]
  · rw [if_neg hu]
    refine st_ext (by rw [a.2.2.2.1]; exact b.2.2.2.1.symm) (by rw [a.2.2.2.2]; exact b.2.2.2.2.symm) (by rw [a.2.1]; exact b.2.1.symm) (by rw [a.2.2.1]; exact b.2.2.1.symm) (by rw [a.1, b.1]) (fun k _ => ?_)
    rw [emp_sup, emp_sup]
    by_cases e : k = x.1
    · subst e; rw [if_neg (fun hh => hu hh.2), if_neg (fun hh => hu hh.2)]
    · have : (∃ y ∈ l ++ [x], y.1 = k) ↔ (∃ y ∈ l, y.1 = k) := by
        constructor
        · rintro ⟨y, p, q⟩
          rcases List.mem_append.1 p with p | p
          · exact ⟨y, p, q⟩
          · rw [List.mem_singleton.1 p] at q; exact absurd q.symm e
        · rintro ⟨y, p, q⟩; exact ⟨y, List.mem_append_left _ p, q⟩
      simp only [this]
/-- all of heap 0's empty ones are of class c: then that is all that goes -/
theorem emp_sweep (S : Ti.St) (hI : Ti.Inv0 S) (c : Int) (hc : ∀ k, S.gone k → (S.sup k).cls = c) : emp S 0 c (mines S 0 c S.sups.length) = S.sweep := by
  obtain ⟨s1, s2, s3, s4, s5⟩ := Ti.sweepTo_same S S.sups.length
  have a := emp_same S 0 c (mines S 0 c S.sups.length)
  refine st_ext (by rw [a.2.2.2.1]; exact s3.symm) (by rw [a.2.2.2.2]; exact s4.symm) (by rw [a.2.1]; exact s1.symm) (by rw [a.2.2.1]; exact s2.symm) (by rw [a.1]; exact s5.symm) (fun k hk => ?_)
  rw [a.1] at hk
  have hs := Ti.sweep_sup S hI k
  rw [emp_sup]
  by_cases hg : S.gone k
  · rw [hs.1 hg, if_pos]
    exact ⟨⟨⟨k, hk, by have h2 := hc k hg; have h3 := hg.2.1; have h4 := hg.1; unfold Ti.St.mine; rw [h2, h3, h4]; simp⟩, (mem_mines _ _ _ _ _).2 hk, rfl⟩, hg.2.2⟩
  · rw [hs.2 hg, if_neg]
    rintro ⟨⟨x, hx, rfl⟩, hu⟩
    have hm := mi_is x.2.2
    exact hg ⟨hm.1, hm.2.1, hu⟩
end Go.Proofs.YtbagfepdmmfegaaDoor

namespace Go.Proofs.YtbagfepdmmfegaaDoor
open Go.RowKit Go.Shelf
attribute [local go_sem] Oper.semAt_some

/-- no block lies in an empty frame -/
theorem empty_none (S : Ti.St) (f : Nat) (hu : S.used f = 0) (h0 : ∀ b ∈ S.blocks, 0 ≤ b.1) (b : Int × Int) (hb : b ∈ S.blocks) : b.1 / 64 ≠ f := by
  intro e
  have := Ti.used_pos S b hb (h0 b hb)
  rw [e] at this
  exact this hu
theorem slot_none (S : Ti.St) (f : Nat) (hf : f < S.sups.length) (hn : ∀ b ∈ S.blocks, b.1 / 64 ≠ f) (j : Nat) : slotOf (S.setSup f Ti.sup0) f j = 0 := by
  unfold slotOf
  rw [Ti.sup_setSup S f f _ hf, if_pos rfl]
  split
  · rename_i h; exact absurd h.1 (by simp [Ti.sup0])
  · split
    · apply sizeAt_none
      intro b hb e
      have := hn b hb
      omega
    · rfl
theorem sup_uncovered (S : Ti.St) (hI : Ti.Inv0 S) (f : Nat) (hs : (S.sup f).is = true) : Ti.coverTo S.blocks f S.blocks.length = false := by
  cases h : Ti.coverTo S.blocks f S.blocks.length with
  | false => rfl
  | true =>
    obtain ⟨b, hb, hc⟩ := (cover_mem _ _).1 h
    have hok := hI.ok b hb
    simp [Ti.covers] at hc
    exact absurd hs (by simpa using (hok.2.2.2.2.2 hc.1.1).2.2 f hc.1.2 hc.2)
theorem pk_none (S : Ti.St) (f : Nat) (hf : f < S.sups.length) (hc : Ti.coverTo S.blocks f S.blocks.length = false) : 0 = pk (S.setSup f Ti.sup0) f := by
  unfold pk
  rw [Ti.sup_setSup S f f _ hf, if_pos rfl, if_neg (by simp [Ti.sup0]), if_neg]
  show ¬ Ti.coverTo S.blocks f S.blocks.length = true
  rw [hc]; simp

set_option maxRecDepth 100000 in
set_option maxHeartbeats 4000000 in
theorem freeEmpty_in (n : Nat) (hn : 4 ≤ n) (w : World) (m bf bz : Nat) (S : Ti.St) (c : Int) (hP : PrAt w m bf bz S) (hne : m ≠ bf ∧ bf ≠ bz) (hI : Ti.Inv0 S) :
    CallsIn Fence.wide n Tryd.prog 80 #[.pointer (some ⟨m, 0, none⟩), .int .i64 c] w fun e w' => e = .returned (.tuple #[]) ∧ PrAt w' m bf bz (emp S 0 c (mines S 0 c S.sups.length)) ∧ Ext (one bf) w w' := by
  have h1 : 1 ≤ n := by omega
  have hall := Wide.wide.all
  have hro := Wide.wide.round
  have h16 := hI.f16
  refine callsIn_of_wp_marks Tryd.func80 rfl (hall _) ?_ hro
  simp only [Tryd.ntmps80, List.size_toArray, List.length_cons, List.length_nil, Nat.reduceAdd, Nat.reduceSub, Array.replicate_succ, Array.replicate_zero, List.push_toArray, List.append_toArray, List.nil_append, List.cons_append]
  gi_wp2_with (gi_at_call 49; refine (superblocks_in Fence.wide _ (hall _) hro _ _ _ _).mono ?_; rintro e w' ⟨rfl, rfl⟩)
  have hml := lt_of_heap hP.hd
  obtain ⟨_, hfl, _⟩ := hP.fr
  have hfl := lt_of_heap hfl
  obtain ⟨_, hzl, _⟩ := hP.bytes
  have hzl := lt_of_heap hzl
  have hb3 := heap3 (w.alloc (.cells #[.pointer (some ⟨m, 0, none⟩)] 69)) (.cells #[.pointer (some ⟨m, 0, none⟩)] 69) (.cells #[.int .i64 0] 3) (.cells #[.int .i64 c] 3)
  have hEB : Ext none1 (w.alloc (.cells #[.pointer (some ⟨m, 0, none⟩)] 69)) ((((w.alloc (.cells #[.pointer (some ⟨m, 0, none⟩)] 69)).alloc (.cells #[.pointer (some ⟨m, 0, none⟩)] 69)).alloc (.cells #[.int .i64 0] 3)).alloc (.cells #[.int .i64 c] 3)) := (((Ext.refl _ _).alloc _).alloc _).alloc _
  have g0 := hEB.keep (heap_alloc_new w _) (fun x => x)
  have hE1 : Ext none1 w ((((w.alloc (.cells #[.pointer (some ⟨m, 0, none⟩)] 69)).alloc (.cells #[.pointer (some ⟨m, 0, none⟩)] 69)).alloc (.cells #[.int .i64 0] 3)).alloc (.cells #[.int .i64 c] 3)) := ((((Ext.refl _ _).alloc _).alloc _).alloc _).alloc _
  have hsz : ((((w.alloc (.cells #[.pointer (some ⟨m, 0, none⟩)] 69)).alloc (.cells #[.pointer (some ⟨m, 0, none⟩)] 69)).alloc (.cells #[.int .i64 0] 3)).alloc (.cells #[.int .i64 c] 3)).heap.size = w.heap.size + 4 := by simp
  simp only [World.size_alloc] at hb3
  clear hEB
  generalize ((((w.alloc (.cells #[.pointer (some ⟨m, 0, none⟩)] 69)).alloc (.cells #[.pointer (some ⟨m, 0, none⟩)] 69)).alloc (.cells #[.int .i64 0] 3)).alloc (.cells #[.int .i64 c] 3)) = w1 at *
  have hP1 := hP.keep0 hE1
  refine range_J hro h1 (gf := 74) (lb := #[.pointer (some ⟨w.heap.size + 1, 0, none⟩), .pointer (some ⟨w.heap.size + 1 + 1, 0, none⟩), .pointer (some ⟨w.heap.size + 1 + 2, 0, none⟩)]) rfl (hall _) (enters_of Tryd.func74 (by kernel_rfl) rfl)
    (superblocksW_J Fence.wide (n - 1) (hall _) hro (by omega) (one bf) m bf bz (w.heap.size + 1) (w.heap.size + 1 + 1) (w.heap.size + 1 + 2) S 0 c h16 w1 (emp S 0 c) (fun pre => (emp_same S 0 c pre).1)
      (fun k j _ hj => by rw [emp_sup, if_neg]; rintro ⟨⟨x, hx, rfl⟩, _⟩; have := (mem_mines _ _ _ _ _).1 hx; omega) (fun pre => (emp_same S 0 c pre).2.1) (by unfold one; omega) (by unfold one; omega) (by unfold one; omega) hb3.1 hb3.2.1 hb3.2.2)
    (fun a b => a.trans b) (fun W l o _ => stay_put _ W l o) (fun _ => rfl)
    (fun pre W => W.heap[w.heap.size]? = some (.cells #[.pointer (some ⟨m, 0, none⟩)] 69 (0, 0)) ∧ PrAt W m bf bz (emp S 0 c pre) ∧ Ext (one bf) w W)
    (fun _ _ _ => False)
    (OwnFrom.and (ownFrom_block (by omega) _) (OwnFrom.and (own_pr _ (by omega) (by omega) (by omega)) (own_ext2 (by omega))))
    (fun _ _ _ _ _ hs _ _ => hs) (fun _ _ hh => hh.2.1)
    ⟨g0, hP1, hE1.mono (fun _ _ x => x.elim)⟩
    (fun x => { tmps := #[.pointer (some ⟨m, 0, none⟩), .int .i64 c, .pointer (some ⟨w.heap.size, 0, none⟩), undef, .int .i64 (x.1 : Int), .pointer (some ⟨m, 0, none⟩), .int .i64 c, .func (.func 74) #[] #[.pointer (some ⟨w.heap.size + 1, 0, none⟩), .pointer (some ⟨w.heap.size + 1 + 1, 0, none⟩), .pointer (some ⟨w.heap.size + 1 + 2, 0, none⟩)], .int .i64 (x.1 : Int), undef, undef, undef, undef, undef, undef, undef, undef, undef, undef, undef, undef, undef, undef, undef, undef], defers := [] }) ?assign ?body ?done ?stop
  case assign =>
    intro l x W K hK
    gi_wp2
    simpa using hK
  case body =>
    rintro l pre x W hll ⟨e0, hPW, hEW⟩ hok
    have hs := emp_same S 0 c pre
    have hxs : (emp S 0 c pre).sup x.1 = S.sup x.1 := by
      rw [hok, emp_sup, if_neg]; rintro ⟨⟨y, hy, e⟩, _⟩; have := (mem_mines _ _ _ _ _).1 hy; omega
    have hmi := mi_is x.2.2
    have hus : posTo (slotOf S x.1) 8 = S.used x.1 := by rw [usedSlots_used S hI x.1 hmi.1]
    have y1 := hPW.c2
    rw [hs.1] at y1
    have hxl' := x.2.1
    obtain ⟨q0, q1, q2, q3, q4, q5, q6, q7, q8, q9, q10⟩ := hPW.fc x.1 (by rw [hs.1]; exact x.2.1)
    rw [pk_of hxs hs.2.1] at q0
    rw [ph_of hxs] at q1
    rw [pc_of hxs] at q2
    simp only [slot_of hxs hs.2.1] at q3 q4 q5 q6 q7 q8 q9 q10
    have y2 := cell_of e0 0
    simp at y2
    have hxl : (x.1 : Int) < S.sups.length := by omega
    gi_wp2_with fail
    refine ⟨fun hh => (by cases hh), (CallsIn.inRound l (Wide.wide.calls (usedSlots_agg _ _ _ (slotOf S x.1) _))).mono ?_⟩
    rintro e w2 ⟨rfl, hE⟩
    clear q0 q1 q2 q3 q4 q5 q6 q7 q8 q9 q10 y1 y2
    have hP2 := hPW.keep0 hE
    have e02 := hE.keep e0 (fun x => x)
    have y2 := cell_of e02 0
    simp at y2
    have y1 := hP2.c2
    rw [hs.1] at y1
    have hE2 : Ext (one bf) w w2 := hEW.trans (hE.mono (fun _ _ x => x.elim))
    have hK2 : KeepsFrom w1.heap.size W w2 := ⟨hE.size, fun k o _ ho _ => hE.keep ho (fun x => x)⟩
    have hSt2 : Stay (but (one bf) l) W w2 := Stay.of_ext hE (fun _ _ x => x)
    have hsn := emp_snoc S 0 c pre x
    by_cases hu : S.used x.1 = 0
    · rw [if_pos hu] at hsn
      rw [hus, hu]
      have qf := fun o => hP2.ff o
      obtain ⟨q0, q1, q2, q3, q4, q5, q6, q7, q8, q9, q10⟩ := hP2.fc x.1 (by rw [hs.1]; exact x.2.1)
      gi_wp2_with fail
      have hpf := hP2.putFrame hne x.1 (by rw [hs.1]; exact x.2.1) Ti.sup0 0 0 0 (pk_none _ _ (by rw [hs.1]; exact x.2.1) (by rw [hs.2.1]; exact sup_uncovered S hI x.1 hmi.1)) rfl rfl (fun j _ => slot_none _ _ (by rw [hs.1]; exact x.2.1) (by rw [hs.2.1]; exact empty_none S x.1 hu (fun b hb => (hI.ok b hb).2.2.1)) j)
      have hkf : KeepsFrom w1.heap.size w2 (putFrame w2 bf x.1 0 0 0) := ⟨(ext_putFrame (X := one bf) (Ext.refl _ _) rfl 0 0 0).size, fun k o hk ho _ => (heap_putFrame_ne (by omega) 0 0 0).trans ho⟩
      have hsf : Stay (but (one bf) l) w2 (putFrame w2 bf x.1 0 0 0) := fun k o hk ho => (heap_putFrame_ne (fun e => hk.1 (by rw [e]; rfl)) 0 0 0).trans ho
      exact ⟨hK2.trans hkf, hSt2.trans hsf, (heap_putFrame_ne (by omega) 0 0 0).trans e02, by rw [hsn]; exact hpf, ext_putFrame hE2 rfl 0 0 0⟩
    · rw [if_neg hu] at hsn
      rw [hus]
      have hu1 : ((S.used x.1 : Int) == 0) = false := by simp; omega
      have hu2 : ¬ (S.used x.1 : Int) = 0 := by omega
      gi_wp2_with fail
      exact ⟨hK2, hSt2, e02, by rw [hsn]; exact hP2, hE2⟩
  case done =>
    rintro D ys W hD rfl ⟨e0, hPD, hED⟩ hKd
    gi_wp2
    refine ⟨by simp, .inl ⟨_, _, rfl, run_takeDeferred hKd, ?_⟩⟩
    refine ⟨_, results_none rfl _ _ _, rfl, ?_, ?_⟩
    · exact OwnFrom.putObj (own_pr (B := w1.heap.size) (fun _ : Unit => emp S 0 c (mines S 0 c S.sups.length)) (by omega) (by omega) (by omega)) (s := ()) _ hPD hD hKd rfl
    · exact OwnFrom.putObj (own_ext2 (β := Unit) (B := w1.heap.size) (by omega)) (s := ()) _ hED hD hKd rfl
  case stop =>
    rintro D c pre W _ _ h _
    exact h.elim

theorem freeEmpty_any (w : World) (m bf bz : Nat) (S : Ti.St) (c : Int) (hP : PrAt w m bf bz S) (hne : m ≠ bf ∧ bf ≠ bz) (hI : Ti.Inv0 S) (hc : ∀ k, S.gone k → (S.sup k).cls = c) :
    Calls Tryd.prog 80 #[.pointer (some ⟨m, 0, none⟩), .int .i64 c] w fun e w' => e = .returned (.tuple #[]) ∧ PrAt w' m bf bz S.sweep ∧ Ext (one bf) w w' := by
  have := (callsIn_wide (n := 9)).1 (freeEmpty_in 9 (by omega) w m bf bz S c hP hne hI)
  rwa [emp_sweep S hI c hc] at this
end Go.Proofs.YtbagfepdmmfegaaDoor
