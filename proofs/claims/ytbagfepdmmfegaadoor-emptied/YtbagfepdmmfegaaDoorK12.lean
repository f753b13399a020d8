import Derived.Test.YtbagfepdmmfegaaDoorK11
import Derived.Sort.QuietIn
set_option linter.unusedVariables false
set_option linter.unusedSimpArgs false
namespace Go.Proofs.YtbagfepdmmfegaaDoor
open Go.RowKit Go.Shelf
attribute [local go_sem] Oper.semAt_some

/-- a frame from which on so many are free -/
abbrev Rn (S : Ti.St) (cnt : Nat) : Type := { i : Nat // i + cnt ≤ S.sups.length ∧ S.allFree i cnt = true }
def rns (S : Ti.St) (cnt : Nat) : Nat → List (Rn S cnt)
  | 0 => []
  | k + 1 => if hm : k + cnt ≤ S.sups.length ∧ S.allFree k cnt = true then rns S cnt k ++ [⟨k, hm⟩] else rns S cnt k
theorem rns_len (S : Ti.St) (cnt k : Nat) : (rns S cnt k).length ≤ k := by
  induction k with
  | zero => simp [rns]
  | succ k ih =>
    simp only [rns]
    split
    · rw [List.length_append]; exact Nat.add_le_add_right ih 1
    · omega

set_option maxRecDepth 100000 in
set_option maxHeartbeats 4000000 in
theorem freeRuns1_in (n : Nat) (hF : Wide Fence.wide) (hn : 2 ≤ n) (l : Nat) (K : Nat → Prop) (m bf bz bm bc : Nat) (S : Ti.St) (cnt : Nat) (c1 : 1 ≤ cnt) (c4 : cnt ≤ 1000) (h16 : S.sups.length ≤ 16) (J Jx : List (Rn S cnt) → World → Prop) (W : World)
    (hJ : AbidesFrom W.heap.size J)
    (hY : ∀ (pre : List (Rn S cnt)) (x : Rn S cnt) W1, J pre W1 → pre.length < S.sups.length → YieldAt Fence.wide (n - 1) Tryd.prog l #[.int .i64 (x.1 : Int)] W1 fun e W' =>
      (e = .returned (.bool true) ∧ J (pre ++ [x]) W' ∧ Stay K W1 W') ∨ (e = .returned (.bool false) ∧ Jx (pre ++ [x]) W'))
    (k1 : K bm) (k2 : K bc) (k4 : K m) (k5 : K bf) (k6 : K bz)
    (hbm : W.heap[bm]? = some (.cells #[.pointer (some ⟨m, 0, none⟩)] 69 (0, 0))) (hbc : W.heap[bc]? = some (.cells #[.int .i64 (cnt : Int)] 3 (0, 0)))
    (hP : PrAt W m bf bz S) (h0 : J [] W) :
    CallsIn Fence.wide n Tryd.prog 104 #[.func (.yield l) #[] #[], .pointer (some ⟨bm, 0, none⟩), .pointer (some ⟨bc, 0, none⟩)] W fun e W' => (∃ v, e = .returned v) ∧
      ((∃ ys, ys = rns S cnt (S.sups.length + 1 - cnt) ∧ J ys W') ∨ (∃ pre, (∃ k, k ≤ S.sups.length + 1 - cnt ∧ pre = rns S cnt k) ∧ Jx pre W')) := by
  have hro : Fence.wide.round = none := rfl
  refine callsIn_of_wp Tryd.func104 rfl trivial ?_ hro
  simp only [Tryd.ntmps104, List.size_toArray, List.length_cons, List.length_nil, Nat.reduceAdd, Nat.reduceSub, Array.replicate_succ, Array.replicate_zero, List.push_toArray, List.append_toArray, List.nil_append, List.cons_append]
  have x1 : W.cell? ⟨bm, 0, none⟩ = some (.pointer (some ⟨m, 0, none⟩)) := by rw [cell_of hbm]; rfl
  have x2 := hP.c2
  have x3 : W.cell? ⟨bc, 0, none⟩ = some (.int .i64 (cnt : Int)) := by rw [cell_of hbc]; rfl
  gi_wp2
  gi_quiet (fail)
  gi_wp2
  have hgr : ∀ s (A B : World), J s A → Ext none1 A B → J s B := fun s A B hs hE => hJ s A B none hs ⟨hE.os, hE.tape, hE.output, hE.size, fun k hk _ => hE.block k hk (fun x => x)⟩ (fun r e => (by cases e))
  gi_loopw [4, 5, 14] (fun _ _ i wr => ∃ k : Nat, k ≤ S.sups.length + 1 - cnt ∧ i = .int .i64 k ∧ J (rns S cnt k) wr ∧ Stay K W wr)
    (fun _ _ i _ => S.sups.length + 1 - cnt - (intOf i).toNat)
  case atStart => exact ⟨0, Nat.zero_le _, rfl, hgr _ _ _ h0 (Ext.of_below (below_drewN (Below.refl _ _) _)), fun k o _ ho => ho⟩
  case round =>
    clear x1 x2 x3
    obtain ⟨k, hk, rfl, hJs, hst⟩ := hrel
    have hPr := hP.stay hst k4 k5 k6
    have t1 := hst bm _ k1 hbm
    have t2 := hst bc _ k2 hbc
    have y1 : wr.cell? ⟨bm, 0, none⟩ = some (.pointer (some ⟨m, 0, none⟩)) := by rw [cell_of t1]; rfl
    have y2 : wr.cell? ⟨bc, 0, none⟩ = some (.int .i64 (cnt : Int)) := by rw [cell_of t2]; rfl
    have y4 := hPr.c2
    by_cases hlt : k < S.sups.length + 1 - cnt
    · have hlt' : (k : Int) + cnt ≤ S.sups.length := by omega
      have hH : Hid (∀ w1, Ext none1 wr w1 → _) := fun w1 hE => containsFunc_any w1 m bf bz S k cnt (S.sups.length - k) (hPr.keep0 hE) h16 (by omega)
      have l1 := lt_of_heap t1
      have l2 := lt_of_heap t2
      have l3 := lt_of_heap hPr.hd
      have hc : ∀ (w' : World) (b o : Nat), Ext none1 wr w' → b < wr.heap.size → w'.cell? ⟨b, o, none⟩ = wr.cell? ⟨b, o, none⟩ := fun w' b o hE hl => by
        show World.cell? _ _ = World.cell? _ _
        unfold World.cell?
        simp only [hE.block b hl (fun x => x)]
      obtain ⟨kc, hkc⟩ : ∃ kc, kc = k + cnt := ⟨_, rfl⟩
      have hw1 : IntKind.i64.wrap ((k : Int) + (cnt : Int)) = (kc : Int) := by rw [IntKind.wrap_i64]; omega
      have hw2 : (kc : Int) ≤ (S.sups.length : Int) := by omega
      have hw2' : kc ≤ S.sups.length := by omega
      have hw3 : k ≤ kc := by omega
      have hw4 : kc - k = cnt := by omega
      have hw5 : ¬ S.sups.length = k := by omega
      clear hkc
      gi_wp2
      refine wpIn_region_wideQ (fun w' => Ext none1 wr w') (by kernel_rfl) (by kernel_rfl) (Ext.refl _ _).drew (fun hHeld => ?_)
      refine take_dst 0 17 (v := ?_) rfl (by kernel_rfl) (by kernel_rfl) (by kernel_rfl) rfl (fun _ _ _ h => h) (Or.inl ⟨by rfl, ?_⟩) (by assumption) ?_
      rotate_left
      · intro wx hSw
        first | (go_simp; done) | (go_simp; with_reducible rfl)
      simp only [Act.put, List.setIfInBounds_toArray, List.set_cons_zero, List.set_cons_succ]
      refine take_dst 1 18 (v := ?_) rfl (by kernel_rfl) (by kernel_rfl) (by kernel_rfl) rfl (fun _ _ _ h => h) (Or.inl ⟨by rfl, ?_⟩) (by assumption) ?_
      rotate_left
      · intro wx hSw
        first | (go_simp; done) | (go_simp; with_reducible rfl)
      simp only [Act.put, List.setIfInBounds_toArray, List.set_cons_zero, List.set_cons_succ]
      refine take_dst 2 19 (v := ?_) rfl (by kernel_rfl) (by kernel_rfl) (by kernel_rfl) rfl (fun _ _ _ h => h) (Or.inl ⟨by rfl, ?_⟩) (by assumption) ?_
      rotate_left
      · intro wx hSw
        first | (go_simp; done) | (go_simp; with_reducible rfl)
      simp only [Act.put, List.setIfInBounds_toArray, List.set_cons_zero, List.set_cons_succ]
      refine take_dst 3 20 (v := ?_) rfl (by kernel_rfl) (by kernel_rfl) (by kernel_rfl) rfl (fun _ _ _ h => h) (Or.inl ⟨by rfl, ?_⟩) (by assumption) ?_
      rotate_left
      · intro wx hSw
        first | (go_simp; done) | (go_simp; with_reducible rfl)
      simp only [Act.put, List.setIfInBounds_toArray, List.set_cons_zero, List.set_cons_succ]
      refine take_dst 4 21 (v := ?_) rfl (by kernel_rfl) (by kernel_rfl) (by kernel_rfl) rfl (fun _ _ _ h => h) (Or.inl ⟨by rfl, ?_⟩) (by assumption) ?_
      rotate_left
      · intro wx hSw
        first | (go_simp; done) | (go_simp; with_reducible rfl)
      simp only [Act.put, List.setIfInBounds_toArray, List.set_cons_zero, List.set_cons_succ]
      refine take_dst 5 22 (v := ?_) rfl (by kernel_rfl) (by kernel_rfl) (by kernel_rfl) rfl (fun _ _ _ h => h) (Or.inl ⟨by rfl, ?_⟩) (by assumption) ?_
      rotate_left
      · intro wx hSw
        first | (go_simp; done) | (go_simp; with_reducible rfl)
      simp only [Act.put, List.setIfInBounds_toArray, List.set_cons_zero, List.set_cons_succ]
      refine take_dst 6 23 (v := ?_) rfl (by kernel_rfl) (by kernel_rfl) (by kernel_rfl) rfl (fun _ _ _ h => h) (Or.inl ⟨by rfl, ?_⟩) (by assumption) ?_
      rotate_left
      · intro wx hSw
        first | (go_simp; done) | (go_simp; with_reducible rfl)
      simp only [Act.put, List.setIfInBounds_toArray, List.set_cons_zero, List.set_cons_succ]
      refine take_dst 7 24 (v := ?_) rfl (by kernel_rfl) (by kernel_rfl) (by kernel_rfl) rfl (fun _ _ _ h => h) (Or.inl ⟨by rfl, ?_⟩) (by assumption) ?_
      rotate_left
      · intro wx hSw
        first | (go_simp; done) | (go_simp; with_reducible rfl)
      simp only [Act.put, List.setIfInBounds_toArray, List.set_cons_zero, List.set_cons_succ]
      refine take_dst 8 25 (v := ?_) rfl (by kernel_rfl) (by kernel_rfl) (by kernel_rfl) rfl (fun _ _ _ h => h) (Or.inl ⟨by rfl, ?_⟩) (by assumption) ?_
      rotate_left
      · intro wx hSw
        first | (go_simp; done) | (go_simp; with_reducible rfl)
      simp only [Act.put, List.setIfInBounds_toArray, List.set_cons_zero, List.set_cons_succ]
      refine wpAnyH_ready (rs := [9]) (by kernel_rfl) (by simp) ?_
      refine AllReadyH.cons (o := { dst := some 26, op := Op.call { callee := Callee.value (Operand.func 105), args := #[Operand.tmp 25, Operand.func 106], argTypes := #[92, 140] }, type := 4, pos := "tell.go:35", after := #[{ on := 8, ground := Ground.data }], guard := none }) rfl (fun K hK => ?_) ?_
      · go_simp
        refine Calls.mono (hH.out _ (Ext.refl _ _).drew) ?_
        rintro e w2 ⟨rfl, hE2⟩
        have hHeld2 : Ext none1 wr w2 := hHeld.trans hE2
        refine hK.out _ _ hHeld2 (fun hHeld => ?_)
        clear hK K
        try simp only [Act.put, List.setIfInBounds_toArray, List.set_cons_zero, List.set_cons_succ]
        refine take_dst 10 27 (v := ?_) rfl (by kernel_rfl) (by kernel_rfl) (by kernel_rfl) rfl (fun _ _ _ h => h) (Or.inl ⟨by rfl, ?_⟩) (by assumption) ?_
        rotate_left
        · intro wx hSw
          first | (go_simp; done) | (go_simp; with_reducible rfl)
        simp only [Act.put, List.setIfInBounds_toArray, List.set_cons_zero, List.set_cons_succ]
        refine take_dst 11 5 (v := ?_) rfl (by kernel_rfl) (by kernel_rfl) (by kernel_rfl) rfl (fun _ _ _ h => h) (Or.inl ⟨by rfl, ?_⟩) (by assumption) ?_
        rotate_left
        · intro wx hSw
          first | (go_simp; done) | (go_simp; with_reducible rfl)
        simp only [Act.put, List.setIfInBounds_toArray, List.set_cons_zero, List.set_cons_succ]
        refine wpAnyH_done (by kernel_rfl) ?_ _
        refine ⟨fun h => (by cases h), ?_⟩
        have hJ2 := hgr _ _ _ hJs hHeld2
        have hst2 : Stay K W w2 := hst.trans (Stay.of_ext hHeld2 (fun _ _ x => x))
        have Hmt : Hid (rns S cnt (k + 1) = if hm : k + cnt ≤ S.sups.length ∧ S.allFree k cnt = true then rns S cnt k ++ [⟨k, hm⟩] else rns S cnt k) := rfl
        have hlen := rns_len S cnt k
        clear hH hc hHeld hHeld2 hw1 hw2 hw3 hw4 hw5 y1 y2 y4 hgr hJ
        cases hm : S.allFree k cnt
        · have Hmt' : Hid (rns S cnt (k + 1) = rns S cnt k) := by show _ = _; rw [Hmt.out, dif_neg (fun x => by rw [hm] at x; cases x.2)]
          clear Hmt hm hY
          gi_wp2
          refine ⟨fun _ h => (by cases h), ?_⟩
          gi_wp2
          go_roundw
          case rel => exact ⟨k + 1, by omega, by go_num, by rw [Hmt'.out]; exact hJ2, hst2⟩
          case measure => simp [intOf]; omega
        · have Hmt' : Hid (rns S cnt (k + 1) = rns S cnt k ++ [⟨k, by omega, hm⟩]) := by show _ = _; rw [Hmt.out, dif_pos ⟨by omega, hm⟩]
          obtain ⟨fn, tmps, assign, body, hy, hR⟩ := hY _ ⟨k, by omega, hm⟩ _ hJ2 (by omega)
          clear Hmt hY
          dsimp only at hy
          gi_wp2
          refine ⟨fun _ => (by omega), hR.mono ?_⟩
          rintro e W3 (⟨rfl, hJ3, hk3⟩ | ⟨rfl, hJx3⟩)
          · gi_wp2
            go_roundw
            case rel => exact ⟨k + 1, by omega, by go_num, by rw [Hmt'.out]; exact hJ3, hst2.trans hk3⟩
            case measure => simp [intOf]; omega
          · gi_wp2
            refine bodyPost_ret (results_none rfl _ _ _) rfl ?_
            exact ⟨⟨_, rfl⟩, .inr ⟨_, ⟨k + 1, by omega, Hmt'.out.symm⟩, hJx3⟩⟩
      exact AllReadyH.nil
    · obtain rfl : k = S.sups.length + 1 - cnt := by omega
      have hge : ¬ (((S.sups.length + 1 - cnt : Nat) : Int) < (S.sups.length : Int) - cnt + 1) := by omega
      gi_wp2
      go_end0
      exact ⟨⟨_, rfl⟩, .inl hJs⟩

theorem freeRuns_J (n : Nat) (hn : 2 ≤ n) (X : Nat → Prop) (m bf bz bm bc : Nat) (S : Ti.St) (cnt : Nat) (c1 : 1 ≤ cnt) (c4 : cnt ≤ 1000) (h16 : S.sups.length ≤ 16) (w : World)
    (k1 : ¬ X bm) (k2 : ¬ X bc) (k4 : ¬ X m) (k5 : ¬ X bf) (k6 : ¬ X bz)
    (hbm : w.heap[bm]? = some (.cells #[.pointer (some ⟨m, 0, none⟩)] 69 (0, 0))) (hbc : w.heap[bc]? = some (.cells #[.int .i64 (cnt : Int)] 3 (0, 0))) (hP : PrAt w m bf bz S) :
    SeqJ Fence.wide n Tryd.prog 104 #[.pointer (some ⟨bm, 0, none⟩), .pointer (some ⟨bc, 0, none⟩)] (fun x : Rn S cnt => #[Value.int .i64 (x.1 : Int)]) (fun pre _ => pre.length < S.sups.length) (fun l => Stay (but X l)) (fun _ _ => True) (fun ys => ys = rns S cnt (S.sups.length + 1 - cnt))
      (fun pre => ∃ k, k ≤ S.sups.length + 1 - cnt ∧ pre = rns S cnt k) w := by
  obtain ⟨_, hfl, _⟩ := hP.fr
  obtain ⟨_, hzl, _⟩ := hP.bytes
  refine SeqJ.of_stops (K := fun k => k = bm ∨ k = bc ∨ k = m ∨ k = bf ∨ k = bz) ?_ ?_
  · rintro k (rfl | rfl | rfl | rfl | rfl)
    · exact ⟨lt_of_heap hbm, k1⟩
    · exact ⟨lt_of_heap hbc, k2⟩
    · exact ⟨lt_of_heap hP.hd, k4⟩
    · exact ⟨lt_of_heap hfl, k5⟩
    · exact ⟨lt_of_heap hzl, k6⟩
  · intro l J Jx W hW hJ _ hY h0
    have hS' : Stay (fun _ => True) w W := fun k o _ ho => (hW.block k (lt_of_heap ho)).trans ho
    exact freeRuns1_in n Wide.wide hn l _ m bf bz bm bc S cnt c1 c4 h16 J Jx W hJ hY (.inl rfl) (.inr (.inl rfl)) (.inr (.inr (.inl rfl))) (.inr (.inr (.inr (.inl rfl)))) (.inr (.inr (.inr (.inr rfl)))) (hS' _ _ trivial hbm) (hS' _ _ trivial hbc) (hP.stay hS' trivial trivial trivial) h0

def lowR {S : Ti.St} {cnt : Nat} (x y : Rn S cnt) : Bool := decide ((x.1 : Int) < (y.1 : Int))
theorem rns_low (S : Ti.St) (cnt k : Nat) (hk : k ≤ S.sups.length + 1 - cnt) :
    match bestOf lowR (rns S cnt k) with
    | none => ∀ j, j < k → S.allFree j cnt = false
    | some x => x.1 < k ∧ ∀ j, j < x.1 → S.allFree j cnt = false := by
  induction k with
  | zero => intro j hj; omega
  | succ k ih =>
    have ih := ih (by omega)
    simp only [rns]
    by_cases hm : S.allFree k cnt = true
    rotate_left
    · rw [dif_neg (fun x => hm x.2)]
      have hm : S.allFree k cnt = false := by simpa using hm
      cases hb : bestOf lowR (rns S cnt k) with
      | none =>
        rw [hb] at ih
        intro j hj
        by_cases e : j = k
        · rw [e]; exact hm
        · exact ih j (by omega)
      | some b => rw [hb] at ih; exact ⟨by have := ih.1; omega, ih.2⟩
    · rw [dif_pos ⟨by omega, hm⟩, bestOf_snoc]
      cases hb : bestOf lowR (rns S cnt k) with
      | none => rw [hb] at ih; exact ⟨Nat.lt_succ_self _, ih⟩
      | some b =>
        rw [hb] at ih
        have : ¬ ((k : Int) < (b.1 : Int)) := by have := ih.1; omega
        simp only [bstep, lowR, this, decide_false, Bool.false_eq_true, if_false]
        exact ⟨by have := ih.1; omega, ih.2⟩
theorem rns_run (S : Ti.St) (cnt : Nat) : bval (fun x : Rn S cnt => (x.1 : Int)) (bestOf lowR (rns S cnt (S.sups.length + 1 - cnt))) = orZ (S.run cnt) ∧ (bestOf lowR (rns S cnt (S.sups.length + 1 - cnt))).isSome = decide (0 ≤ S.run cnt) := by
  have hl := rns_low S cnt (S.sups.length + 1 - cnt) (Nat.le_refl _)
  cases hb : bestOf lowR (rns S cnt (S.sups.length + 1 - cnt)) with
  | none =>
    rw [hb] at hl
    have : S.run cnt = -1 := by
      unfold Ti.St.run
      exact runTo_skip _ _ _ hl
    rw [this]; simp [bval, orZ]
  | some x =>
    rw [hb] at hl
    have : S.run cnt = (x.1 : Int) := by
      unfold Ti.St.run
      exact runTo_hit _ _ _ _ hl.2 x.2.2 hl.1
    rw [this]; simp [bval, orZ]

theorem freeRunsMk_any (m : Nat) (c : Int) (w : World) :
    Calls Tryd.prog 95 #[.pointer (some ⟨m, 0, none⟩), .int .i64 c] w fun e w' =>
      e = .returned (.func (.func 104) #[] #[.pointer (some ⟨w.heap.size, 0, none⟩), .pointer (some ⟨w.heap.size + 1, 0, none⟩)]) ∧ w' = (w.alloc (.cells #[.pointer (some ⟨m, 0, none⟩)] 69)).alloc (.cells #[.int .i64 c] 3) := by
  go_enter Tryd.func95, Tryd.ntmps95
  go_wp2
  go_ret
  exact ⟨rfl, rfl⟩

/-- 'pick.Best(m.freeRuns(count), lower)', the iterator made -/
theorem lowestRun_any (w : World) (m bf bz bm bc : Nat) (S : Ti.St) (cnt : Nat) (c1 : 1 ≤ cnt) (c4 : cnt ≤ 1000) (hP : PrAt w m bf bz S) (h16 : S.sups.length ≤ 16) (hbm : w.heap[bm]? = some (.cells #[.pointer (some ⟨m, 0, none⟩)] 69 (0, 0))) (hbc : w.heap[bc]? = some (.cells #[.int .i64 (cnt : Int)] 3 (0, 0))) :
    Calls Tryd.prog 94 #[.func (.func 104) #[] #[.pointer (some ⟨bm, 0, none⟩), .pointer (some ⟨bc, 0, none⟩)], .func (.func 96) #[] #[]] w fun e w' =>
      e = .returned (.tuple #[.int .i64 (orZ (S.run cnt)), .bool (decide (0 ≤ S.run cnt))]) ∧ Ext none1 w w' := by
  have v1 := lt_of_heap hbm
  have v2 := lt_of_heap hbc
  have v4 := lt_of_heap hP.hd
  obtain ⟨_, v5, _⟩ := hP.fr
  have v5 := lt_of_heap v5
  obtain ⟨_, v6, _⟩ := hP.bytes
  have v6 := lt_of_heap v6
  have hbest := (callsIn_wide (n := 9)).1 (best_in Fence.wide 9 Wide.wide (by omega) w 104 96 #[.pointer (some ⟨bm, 0, none⟩), .pointer (some ⟨bc, 0, none⟩)] #[]
    (fun x : Rn S cnt => (x.1 : Int)) (rns S cnt (S.sups.length + 1 - cnt)) (fun pre => ∃ k, k ≤ S.sups.length + 1 - cnt ∧ pre = rns S cnt k) (fun pre _ => pre.length < S.sups.length) lowR (enters_of Tryd.func104 (by kernel_rfl) rfl) (enters_of Tryd.func96 (by kernel_rfl) rfl)
    (fun w2 hB hs => by
      have hS : Stay (fun _ => True) w w2 := fun k o _ ho => (hB.block k (lt_of_heap ho)).trans ho
      refine freeRuns_J 8 (by omega) (two (w.heap.size + 1) (w.heap.size + 2)) m bf bz bm bc S cnt c1 c4 h16 w2 ?_ ?_ ?_ ?_ ?_ (hS _ _ trivial hbm) (hS _ _ trivial hbc) (hP.stay hS trivial trivial trivial)
      all_goals rintro (e | e) <;> omega)
    (fun x y W k hB => Wide.wide.calls ((lower_any _ _ W).mono (fun e W' h => ⟨h.1, by rw [← h.2]; exact Ext.refl _ _⟩))))
  rw [(rns_run S cnt).1, (rns_run S cnt).2] at hbest
  exact hbest
end Go.Proofs.YtbagfepdmmfegaaDoor

namespace Go.Proofs.YtbagfepdmmfegaaDoor
open Go.RowKit Go.Shelf

/-- the cells of a frame -/
def fv (S : Ti.St) (g j : Nat) : Int := if j = 0 then pk S g else if j = 1 then ph S g else if j = 2 then pc S g else slotOf S g (j - 3)
def CellsAt (w : World) (bf n : Nat) (v : Nat → Nat → Int) : Prop :=
  ∃ c, w.heap[bf]? = some (.cells c 100 (0, 0)) ∧ c.size = n * 11 ∧ ∀ g, g < n → ∀ j, j < 11 → c[g * 11 + j]? = some (.int .i64 (v g j))
theorem FrAt.cells {w : World} {bf : Nat} {S : Ti.St} (h : FrAt w bf S) : CellsAt w bf S.sups.length (fv S) := by
  obtain ⟨c, h1, h2, h3⟩ := h
  refine ⟨c, h1, h2, fun g hg j hj => ?_⟩
  obtain ⟨a0, a1, a2, a3⟩ := h3 g hg
  unfold fv
  by_cases e0 : j = 0
  · subst e0; exact a0
  · by_cases e1 : j = 1
    · subst e1; exact a1
    · by_cases e2 : j = 2
      · subst e2; exact a2
      · rw [if_neg e0, if_neg e1, if_neg e2]
        have := a3 (j - 3) (by omega)
        rwa [show g * 11 + 3 + (j - 3) = g * 11 + j by omega] at this
theorem CellsAt.fr {w : World} {bf : Nat} {S : Ti.St} (v : Nat → Nat → Int) (h : CellsAt w bf S.sups.length v) (hv : ∀ g, g < S.sups.length → ∀ j, j < 11 → v g j = fv S g j) : FrAt w bf S := by
  obtain ⟨c, h1, h2, h3⟩ := h
  refine ⟨c, h1, h2, fun g hg => ?_⟩
  have k := fun j hj => (h3 g hg j hj).trans (by rw [hv g hg j hj])
  refine ⟨k 0 (by omega), k 1 (by omega), k 2 (by omega), fun m hm => ?_⟩
  have := k (m + 3) (by omega)
  unfold fv at this
  rw [if_neg (by omega), if_neg (by omega), if_neg (by omega)] at this
  rwa [show g * 11 + (m + 3) = g * 11 + 3 + m by omega, show m + 3 - 3 = m by omega] at this
theorem CellsAt.cell {w : World} {bf n : Nat} {v : Nat → Nat → Int} (h : CellsAt w bf n v) (g : Nat) (hg : g < n) (j : Nat) (hj : j < 11) : w.cell? ⟨bf, g * 11 + j, none⟩ = some (.int .i64 (v g j)) ∧ w.frozen? ⟨bf, g * 11 + j, none⟩ = false := by
  obtain ⟨c, h1, h2, h3⟩ := h
  exact ⟨by rw [cell_of h1]; exact h3 g hg j hj, frozen_of h1 _⟩
theorem CellsAt.set {w : World} {bf n : Nat} {v : Nat → Nat → Int} (h : CellsAt w bf n v) (g : Nat) (hg : g < n) (j : Nat) (hj : j < 11) (x : Int) : CellsAt (w.setCell ⟨bf, g * 11 + j, none⟩ (.int .i64 x)) bf n (fun a b => if a = g ∧ b = j then x else v a b) := by
  obtain ⟨c, h1, h2, h3⟩ := h
  refine ⟨_, heap_set h1 _ _, by simpa using h2, fun a ha b hb => ?_⟩
  show _ = some (Value.int .i64 (if a = g ∧ b = j then x else v a b))
  by_cases e : a = g ∧ b = j
  · rw [if_pos e, e.1, e.2]; simp [show g * 11 + j < c.size by omega]
  · rw [if_neg e, Array.getElem?_setIfInBounds_ne (by intro hh; apply e; omega)]; exact h3 a ha b hb
theorem CellsAt.congr {w : World} {bf n : Nat} {v u : Nat → Nat → Int} (h : CellsAt w bf n v) (hv : ∀ g, g < n → ∀ j, j < 11 → v g j = u g j) : CellsAt w bf n u := by
  obtain ⟨c, h1, h2, h3⟩ := h
  exact ⟨c, h1, h2, fun g hg j hj => (h3 g hg j hj).trans (by rw [hv g hg j hj])⟩
theorem CellsAt.put {w : World} {bf n : Nat} {v : Nat → Nat → Int} (h : CellsAt w bf n v) (f : Nat) (hf : f < n) (k : Int) : CellsAt (putFrame w bf f k 0 0) bf n (fun a b => if a = f then (if b = 0 then k else 0) else v a b) := by
  refine (((((((((((h.set f hf 0 (by omega) k).set f hf 1 (by omega) 0).set f hf 2 (by omega) 0).set f hf 3 (by omega) 0).set f hf 4 (by omega) 0).set f hf 5 (by omega) 0).set f hf 6 (by omega) 0).set f hf 7 (by omega) 0).set f hf 8 (by omega) 0).set f hf 9 (by omega) 0).set f hf 10 (by omega) 0).congr ?_
  intro a ha b hb
  by_cases e : a = f
  · subst e
    match b, hb with
    | 0, _ => simp
    | 1, _ => simp
    | 2, _ => simp
    | 3, _ => simp
    | 4, _ => simp
    | 5, _ => simp
    | 6, _ => simp
    | 7, _ => simp
    | 8, _ => simp
    | 9, _ => simp
    | 10, _ => simp
  · simp [e]

/-- frames of a large block, so far -/
def lv (S : Ti.St) (f k g j : Nat) : Int := if f ≤ g ∧ g < f + k then (if j = 0 then 2 else 0) else fv S g j

theorem large_fv (S : Ti.St) (hI : Ti.Inv0 S) (f cnt : Nat) (size : Int) (s1 : 32 < size) (hcnt : (size + 63) / 64 = (cnt : Int)) (hfr : ∀ k, k < cnt → S.free (f + k) = true) (hf : f + cnt ≤ S.sups.length) (g : Nat) (hg : g < S.sups.length) (j : Nat) (hj : j < 11) :
    (if g = f ∧ j = 3 then size else lv S f cnt g j) = fv { S with blocks := Ti.ins (64 * (f : Int), size) S.blocks } g j := by
  have hc1 : 1 ≤ cnt := by omega
  have hcv : Ti.covers (64 * (f : Int), size) g = decide (f ≤ g ∧ g < f + cnt) := by
    rw [Bool.eq_iff_iff]
    simp [Ti.covers]
    omega
  have hno : ∀ x ∈ S.blocks, x.1 ≠ (64 * (f : Int), size).1 := fun x hx e => by
    have h0 := hfr 0 (by omega)
    have := Ti.free_none S hI (f + 0) h0 x hx
    have e' : x.1 = 64 * (f : Int) := e
    apply this; omega
  have e0 : ({ S with blocks := Ti.ins (64 * (f : Int), size) S.blocks } : Ti.St).sup g = S.sup g := rfl
  have hsz : ∀ a, sizeAt ({ S with blocks := Ti.ins (64 * (f : Int), size) S.blocks } : Ti.St).blocks a = if a = 64 * (f : Int) then size else sizeAt S.blocks a := fun a => sizeAt_ins _ hI.sorted _ hno a
  have hcov : Ti.coverTo ({ S with blocks := Ti.ins (64 * (f : Int), size) S.blocks } : Ti.St).blocks g ({ S with blocks := Ti.ins (64 * (f : Int), size) S.blocks } : Ti.St).blocks.length = (decide (f ≤ g ∧ g < f + cnt) || Ti.coverTo S.blocks g S.blocks.length) := by
    rw [← hcv]; exact cover_ins _ _ _
  unfold lv fv pk ph pc slotOf
  rw [e0, hcov]
  simp only [hsz]
  by_cases hin : f ≤ g ∧ g < f + cnt
  · have hfree := hfr (g - f) (by omega)
    rw [show f + (g - f) = g by omega] at hfree
    have hnb := Ti.free_none S hI g hfree
    have his : (S.sup g).is = false := ((Ti.free_spec S g).1 hfree).1
    have hsz0 : sizeAt S.blocks (64 * (g : Int)) = 0 := sizeAt_none _ _ (fun b hb e => by have := hnb b hb; omega)
    rw [if_pos hin]
    simp only [his, hin, decide_true, Bool.true_or, if_true, Bool.false_eq_true, false_and, if_false, and_self, true_and]
    by_cases e0 : j = 0
    · simp [e0]
    · by_cases e1 : j = 1
      · simp [e1]
      · by_cases e2 : j = 2
        · simp [e2]
        · simp only [if_neg e0, if_neg e1, if_neg e2]
          by_cases e3 : j = 3
          · subst e3
            by_cases eg : g = f
            · subst eg; simp
            · rw [if_neg (fun h => eg h.1), if_pos (by omega), if_neg (by omega), hsz0]
          · rw [if_neg (fun h => e3 h.2), if_neg (by omega)]
  · rw [if_neg hin]
    have hgf : g ≠ f := by omega
    have hd : decide (f ≤ g ∧ g < f + cnt) = false := decide_eq_false hin
    rw [hd, if_neg (fun h => hgf h.1)]
    simp only [Bool.false_or]
    by_cases e0 : j = 0
    · simp [e0]
    · by_cases e1 : j = 1
      · simp [e1]
      · by_cases e2 : j = 2
        · simp [e2]
        · simp only [if_neg e0, if_neg e1, if_neg e2]
          by_cases hc : (S.sup g).is = true ∧ ((j - 3 : Nat) : Int) < Ti.slots (S.sup g).cls
          · rw [if_pos hc, if_pos hc, if_neg]
            have hb1 := Ti.slot_bounds (S.sup g).cls (j - 3) hc.2
            omega
          · rw [if_neg hc, if_neg hc]
            by_cases hd : (S.sup g).is = false ∧ j - 3 = 0
            · rw [if_pos hd, if_pos hd, if_neg (by omega)]
            · rw [if_neg hd, if_neg hd]

theorem heap2 (w : World) (a b : Obj) : ((w.alloc a).alloc b).heap[w.heap.size]? = some a ∧ ((w.alloc a).alloc b).heap[w.heap.size + 1]? = some b := by
  refine ⟨?_, ?_⟩
  · show ((w.heap.push a).push b)[_]? = _
    simp [Array.getElem?_push, Array.getElem_push] <;> omega
  · show ((w.heap.push a).push b)[_]? = _
    simp [Array.getElem?_push, Array.getElem_push] <;> omega

set_option maxRecDepth 100000 in
set_option maxHeartbeats 4000000 in
theorem takeFrames_no (w : World) (m bf bz : Nat) (S : Ti.St) (size : Int) (cnt : Nat) (hcnt : (size + 63) / 64 = (cnt : Int)) (hP : PrAt w m bf bz S) (hI : Ti.Inv0 S) (s1 : 32 < size) (s2 : size ≤ 256) (hrun : S.run cnt = -1) :
    Calls Tryd.prog 75 #[.pointer (some ⟨m, 0, none⟩), .int .i64 size] w fun e w' => e = .returned (.tuple #[.int .i64 0, .bool false]) ∧ Ext none1 w w' := by
  have h16 := hI.f16
  go_enter Tryd.func75, Tryd.ntmps75
  go_wp2_with fail
  refine (framesFor_any size w (by omega) (by omega)).mono ?_
  rintro e w' ⟨rfl, rfl⟩
  rw [hcnt]
  go_wp2_with fail
  refine (freeRunsMk_any m cnt w).mono ?_
  rintro e w' ⟨rfl, rfl⟩
  have hb2 := heap2 w (.cells #[.pointer (some ⟨m, 0, none⟩)] 69) (.cells #[.int .i64 (cnt : Int)] 3)
  have hE1 : Ext none1 w ((w.alloc (.cells #[.pointer (some ⟨m, 0, none⟩)] 69)).alloc (.cells #[.int .i64 (cnt : Int)] 3)) := ((Ext.refl _ _).alloc _).alloc _
  have H3 : Hid _ := lowestRun_any _ m bf bz w.heap.size (w.heap.size + 1) S cnt (by omega) (by omega) (hP.keep0 hE1) h16 hb2.1 hb2.2
  rw [hrun] at H3
  clear hrun
  go_wp2_with fail
  refine Calls.mono H3.out ?_
  rintro e w4 ⟨rfl, hE4⟩
  go_wp2
  go_ret2
  exact ⟨rfl, hE1.trans hE4⟩

set_option maxRecDepth 100000 in
set_option maxHeartbeats 8000000 in
theorem takeFrames_yes (w : World) (m bf bz : Nat) (S : Ti.St) (size : Int) (cnt f : Nat) (hcnt : (size + 63) / 64 = (cnt : Int)) (hP : PrAt w m bf bz S) (hne : m ≠ bf ∧ bf ≠ bz ∧ m ≠ bz) (hI : Ti.Inv0 S) (s1 : 32 < size) (s2 : size ≤ 256) (hrun : S.run cnt = (f : Int)) :
    Calls Tryd.prog 75 #[.pointer (some ⟨m, 0, none⟩), .int .i64 size] w fun e w' =>
      e = .returned (.tuple #[.int .i64 (64 * f), .bool true]) ∧ PrAt w' m bf bz { S with blocks := Ti.ins (64 * (f : Int), size) S.blocks } ∧ Ext (one bf) w w' := by
  have h16 := hI.f16
  obtain ⟨hrf, hfr⟩ := Ti.run_free S cnt f hrun
  have hd : decide (0 ≤ (f : Int)) = true := decide_eq_true (by omega)
  go_enter Tryd.func75, Tryd.ntmps75
  go_wp2_with fail
  refine (framesFor_any size w (by omega) (by omega)).mono ?_
  rintro e w' ⟨rfl, rfl⟩
  rw [hcnt]
  have hc1 : 1 ≤ cnt := by omega
  have hc4 : cnt ≤ 1000 := by omega
  go_wp2_with fail
  refine (freeRunsMk_any m cnt w).mono ?_
  rintro e w' ⟨rfl, rfl⟩
  have hb2 := heap2 w (.cells #[.pointer (some ⟨m, 0, none⟩)] 69) (.cells #[.int .i64 (cnt : Int)] 3)
  have hE1 : Ext none1 w ((w.alloc (.cells #[.pointer (some ⟨m, 0, none⟩)] 69)).alloc (.cells #[.int .i64 (cnt : Int)] 3)) := ((Ext.refl _ _).alloc _).alloc _
  have H3 : Hid _ := lowestRun_any _ m bf bz w.heap.size (w.heap.size + 1) S cnt hc1 hc4 (hP.keep0 hE1) h16 hb2.1 hb2.2
  rw [hrun, orZ_nn, hd] at H3
  have Hfv : Hid (∀ g, g < S.sups.length → ∀ j, j < 11 → (if g = f ∧ j = 3 then size else lv S f cnt g j) = fv { S with blocks := Ti.ins (64 * (f : Int), size) S.blocks } g j) := fun g hg j hj => large_fv S hI f cnt size s1 hcnt hfr (by omega) g hg j hj
  clear hrun hd hfr hcnt hb2
  go_wp2_with fail
  refine Calls.mono H3.out ?_
  rintro e w4 ⟨rfl, hE4⟩
  have hE := hE1.trans hE4
  have hP4 := hP.keep0 hE
  clear H3 hE1 hE4
  have hc0 : CellsAt w4 bf S.sups.length (lv S f 0) := (FrAt.cells hP4.fr).congr (fun g _ j _ => by unfold lv; rw [if_neg (by omega)])
  have hml := lt_of_heap hP4.hd
  go_wp2
  go_loopw [9, 22] (fun _ i wr => ∃ k : Nat, k ≤ cnt ∧ i = .int .i64 k ∧ CellsAt wr bf S.sups.length (lv S f k) ∧ Ext (one bf) w4 wr) (fun _ i _ => cnt - (intOf i).toNat)
  case atStart => exact ⟨0, Nat.zero_le _, rfl, hc0, Ext.refl _ _⟩
  case round =>
    obtain ⟨k, hk, rfl, hcl, hEr⟩ := hrel
    have y2 : wr.cell? ⟨m, 2, none⟩ = some (.slice (some ⟨bf, 0, none⟩) S.sups.length S.sups.length) := by
      rw [cell_of (hEr.keep hP4.hd (fun h => hne.1 h))]; rfl
    by_cases hlt : k < cnt
    · obtain ⟨fk, hfk⟩ : ∃ fk, fk = f + k := ⟨_, rfl⟩
      have hw1 : IntKind.i64.wrap ((f : Int) + (k : Int)) = (fk : Int) := by rw [IntKind.wrap_i64]; omega
      have hfl : fk < S.sups.length := by omega
      have hfl' : (fk : Int) < (S.sups.length : Int) := by omega
      have q0 := hcl.cell fk hfl 0 (by omega)
      have q1 := hcl.cell fk hfl 1 (by omega)
      have q2 := hcl.cell fk hfl 2 (by omega)
      have q3 := hcl.cell fk hfl 3 (by omega)
      have q4 := hcl.cell fk hfl 4 (by omega)
      have q5 := hcl.cell fk hfl 5 (by omega)
      have q6 := hcl.cell fk hfl 6 (by omega)
      have q7 := hcl.cell fk hfl 7 (by omega)
      have q8 := hcl.cell fk hfl 8 (by omega)
      have q9 := hcl.cell fk hfl 9 (by omega)
      have q10 := hcl.cell fk hfl 10 (by omega)
      simp only [Nat.add_zero] at q0
      obtain ⟨q0, p0⟩ := q0
      obtain ⟨q1, p1⟩ := q1
      obtain ⟨q2, p2⟩ := q2
      obtain ⟨q3, p3⟩ := q3
      obtain ⟨q4, p4⟩ := q4
      obtain ⟨q5, p5⟩ := q5
      obtain ⟨q6, p6⟩ := q6
      obtain ⟨q7, p7⟩ := q7
      obtain ⟨q8, p8⟩ := q8
      obtain ⟨q9, p9⟩ := q9
      obtain ⟨q10, p10⟩ := q10
      have hput := (hcl.put fk hfl 2).congr (u := lv S f (k + 1)) (fun g _ j _ => by
        unfold lv
        by_cases e : g = fk
        · rw [if_pos e, if_pos (show f ≤ g ∧ g < f + (k + 1) by omega)]
        · rw [if_neg e]
          by_cases e2 : f ≤ g ∧ g < f + k
          · rw [if_pos e2, if_pos (show f ≤ g ∧ g < f + (k + 1) by omega)]
          · rw [if_neg e2, if_neg (show ¬ (f ≤ g ∧ g < f + (k + 1)) by omega)])
      have hExt := ext_putFrame hEr (f := fk) (show one bf bf from rfl) 2 0 0
      clear hcl hfk
      go_wp2
      go_roundw
      case rel => exact ⟨k + 1, by omega, by go_num, hput, hExt⟩
      case measure => simp [intOf]; omega
    · obtain rfl : k = cnt := by omega
      have hfl : f < S.sups.length := by omega
      have hfl' : (f : Int) < (S.sups.length : Int) := by omega
      obtain ⟨q3, p3⟩ := hcl.cell f hfl 3 (by omega)
      have hset := (hcl.set f hfl 3 (by omega) size).fr (S := { S with blocks := Ti.ins (64 * (f : Int), size) S.blocks }) _ Hfv.out
      have hExt := (hEr.setCell ⟨bf, f * 11 + 3, none⟩ (.inl (show one bf bf from rfl)) (.int .i64 size))
      clear hcl Hfv
      go_wp2
      go_ret2
      refine ⟨by simp [Int.mul_comm], ⟨?_, hset, ?_⟩, (hE.mono (fun _ _ x => x.elim)).trans hExt⟩
      · exact hExt.keep hP4.hd (fun h => hne.1 h)
      · obtain ⟨c, a, b⟩ := hP4.bytes
        exact ⟨c, hExt.keep a (fun h => hne.2.1 h.symm), b⟩
end Go.Proofs.YtbagfepdmmfegaaDoor

namespace Go.Proofs.YtbagfepdmmfegaaDoor
open Go.RowKit Go.Shelf

/-- what malloc does but for the bytes -/
def MallocIs (S : Ti.St) (worker size : Int) (a : Nat) (T : Ti.St) : Prop :=
  S.malloc worker size = (((a : Int), 0), { T with bytes := Ti.zeroTo S.bytes a size.toNat }) ∧ T.bytes = S.bytes ∧ a + size.toNat ≤ S.bytes.length

set_option maxRecDepth 100000 in
set_option maxHeartbeats 4000000 in
theorem place_any (w : World) (m bf bz : Nat) (S : Ti.St) (worker size : Int) (hP : PrAt w m bf bz S) (hne : m ≠ bf ∧ bf ≠ bz ∧ m ≠ bz) (hI : Ti.Inv0 S) (w0 : 0 ≤ worker) (w1 : worker ≤ 1000) (s1 : 1 ≤ size) (s2 : size ≤ 256) :
    Calls Tryd.prog 52 #[.pointer (some ⟨m, 0, none⟩), .int .i64 worker, .int .i64 size] w fun e w' =>
      (S.malloc worker size = ((0, 2), S) ∧ e = .returned (.tuple #[.int .i64 0, .bool false]) ∧ Ext none1 w w') ∨
      (∃ a T, MallocIs S worker size a T ∧ e = .returned (.tuple #[.int .i64 (a : Int), .bool true]) ∧ PrAt w' m bf bz T ∧ Ext (one bf) w w') := by
  have hng : ¬ (worker < 0 ∨ 1000 < worker ∨ size < 1 ∨ 256 < size) := by omega
  have hmz : S.malloc worker size = if 32 < size then S.mallocLarge size else S.mallocSmall worker size := by unfold Ti.St.malloc; rw [if_neg hng]
  have hbz := hI.bz
  by_cases hl : 32 < size
  · rw [if_pos hl] at hmz
    obtain ⟨cnt, hcnt⟩ : ∃ cnt : Nat, (size + 63) / 64 = (cnt : Int) := ⟨((size + 63) / 64).toNat, by omega⟩
    have hml : S.mallocLarge size = if S.run cnt < 0 then ((0, 2), S) else ((64 * S.run cnt, 0), S.put (64 * S.run cnt, size)) := by
      unfold Ti.St.mallocLarge; rw [hcnt, Int.toNat_natCast]
    rcases Ti.run_spec S cnt with ⟨hr, _⟩ | ⟨f, hf, hr, _⟩
    · rw [hml, hr, if_pos (by omega)] at hmz
      have H1 : Hid _ := takeFrames_no w m bf bz S size cnt hcnt hP hI hl s2 hr
      have Hm : Hid (S.malloc worker size = ((0, 2), S)) := hmz
      clear hmz hml hr hng hcnt
      go_enter Tryd.func52, Tryd.ntmps52
      go_wp2_with fail
      refine Calls.mono H1.out ?_
      rintro e w' ⟨rfl, hE⟩
      go_wp2
      go_ret2
      exact .inl ⟨Hm.out, rfl, hE⟩
    · rw [hml, hr, if_neg (by omega)] at hmz
      have H1 : Hid _ := takeFrames_yes w m bf bz S size cnt f hcnt hP hne hI hl s2 hr
      have Hm : Hid (MallocIs S worker size (64 * f) { S with blocks := Ti.ins (64 * (f : Int), size) S.blocks }) := by
        refine ⟨?_, rfl, by omega⟩
        rw [hmz]
        show (_, Ti.St.put _ _) = _
        unfold Ti.St.put
        have e : ((64 * f : Nat) : Int) = 64 * (f : Int) := by omega
        rw [e]
        have e2 : (64 * (f : Int)).toNat = 64 * f := by omega
        simp only [e2]
      clear hmz hml hr hng hcnt
      go_enter Tryd.func52, Tryd.ntmps52
      go_wp2_with fail
      refine Calls.mono H1.out ?_
      rintro e w' ⟨rfl, hP', hE⟩
      go_wp2
      go_ret2
      exact .inr ⟨_, _, Hm.out, by congr 3, hP', hE⟩
  · rw [if_neg hl] at hmz
    have hs32 : size ≤ 32 := by omega
    rcases Ti.mallocSmall_spec S hI worker size s1 hs32 with ⟨hpl, hr⟩ | ⟨f, n, hf, hpl, hn, _, hat, hlow, hr⟩
    · rw [hr] at hmz
      have H1 : Hid _ := takeSlot_no w m bf bz S worker size hP hI w0 w1 hs32 hpl
      have Hm : Hid (S.malloc worker size = ((0, 2), S)) := hmz
      clear hmz hr hpl hng
      go_enter Tryd.func52, Tryd.ntmps52
      go_wp2_with fail
      refine Calls.mono H1.out ?_
      rintro e w' ⟨rfl, hE⟩
      go_wp2
      go_ret2
      exact .inl ⟨Hm.out, rfl, hE⟩
    · rw [hr] at hmz
      have hcw := Ti.cls_width size hs32
      obtain ⟨b1, b2, b3, b4⟩ := Ti.slot_bounds _ n hn
      obtain ⟨a, ha⟩ : ∃ a : Nat, 64 * (f : Int) + n * Ti.width (Ti.clsOf size) = (a : Int) := ⟨(64 * (f : Int) + n * Ti.width (Ti.clsOf size)).toNat, by omega⟩
      have H1 : Hid _ := takeSlot_yes w m bf bz S worker size hP hne hI w0 w1 s1 hs32 f n hf hpl hn hat hlow
      rw [ha] at H1
      have Hm : Hid (MallocIs S worker size a { S.setSup f ⟨true, Ti.clsOf size, 1 + worker % S.heaps⟩ with blocks := Ti.ins ((a : Int), size) S.blocks }) := by
        refine ⟨?_, rfl, by omega⟩
        rw [hmz, ha]
        unfold Ti.St.put
        simp only [Int.toNat_natCast]
        rfl
      clear hmz hr hpl hng hat hlow hn ha
      go_enter Tryd.func52, Tryd.ntmps52
      go_wp2_with fail
      refine Calls.mono H1.out ?_
      rintro e w' ⟨rfl, hP', hE⟩
      go_wp2
      go_ret2
      exact .inr ⟨_, _, Hm.out, rfl, hP', hE⟩

set_option maxRecDepth 100000 in
set_option maxHeartbeats 4000000 in
theorem takeM_any (w : World) (m bf bz : Nat) (S : Ti.St) (worker size : Int) (hP : PrAt w m bf bz S) (hne : m ≠ bf ∧ bf ≠ bz ∧ m ≠ bz) (hI : Ti.Inv0 S) (w0 : 0 ≤ worker) (w1 : worker ≤ 1000) (s1 : 1 ≤ size) (s2 : size ≤ 256) :
    Calls Tryd.prog 35 #[.pointer (some ⟨m, 0, none⟩), .int .i64 worker, .int .i64 size] w fun e w' =>
      ((S.malloc worker size).1.2 = 0 ∨ (S.malloc worker size).1 = (0, 2)) ∧ e = .returned (.tuple #[.int .i64 (S.malloc worker size).1.1, .bool (decide ((S.malloc worker size).1.2 = 0))]) ∧ PrAt w' m bf bz (S.malloc worker size).2 ∧ Ext (two bf bz) w w' := by
  have H1 : Hid _ := place_any w m bf bz S worker size hP hne hI w0 w1 s1 s2
  go_enter Tryd.func35, Tryd.ntmps35
  go_wp2_with fail
  refine Calls.mono H1.out ?_
  clear H1
  rintro e w2 (⟨hm, rfl, hE⟩ | ⟨a, T, ⟨hm, hb, hle⟩, rfl, hP2, hE⟩)
  · have Hm : Hid _ := hm
    clear hm
    go_wp2
    go_ret2
    rw [Hm.out]
    exact ⟨.inr rfl, rfl, hP.keep0 hE, hE.mono (fun _ _ x => x.elim)⟩
  · have Hm : Hid _ := hm
    clear hm
    obtain ⟨zn, rfl⟩ := Int.eq_ofNat_of_zero_le (show 0 ≤ size by omega)
    have hbz := hI.bz
    have h16 := hI.f16
    rw [Int.toNat_natCast] at hle
    have y3 := hP2.c3
    rw [hb] at y3
    have hcl := fun cp => clear_at hP2 a zn cp 0 (by omega) (by rw [hb]; exact hle)
    have hz := hP2.zero hne a zn
    have hxt := ext_setCells (X := two bf bz) (A := w) bz (.inr rfl) (List.replicate zn (.int .u8 0)) a w2 (hE.mono (fun _ _ h => .inl h))
    obtain ⟨ac, hac⟩ : ∃ ac, ac = a + zn := ⟨_, rfl⟩
    have hw1 : IntKind.i64.wrap ((a : Int) + (zn : Int)) = (ac : Int) := by rw [IntKind.wrap_i64]; omega
    have hw2 : (ac : Int) ≤ (S.bytes.length : Int) := by omega
    have hw2' : ac ≤ S.bytes.length := by omega
    have hw3 : a ≤ ac := by omega
    have hw4 : ac - a = zn := by omega
    have hw5 : ¬ S.bytes.length = a := by omega
    have hcl' := hcl (S.bytes.length - a)
    have hlb : S.bytes.length ≤ 1024 := by omega
    clear hac hcl hbz h16
    go_wp2
    go_ret2
    rw [Hm.out]
    refine ⟨.inl rfl, rfl, ?_, hxt⟩
    rw [hb] at hz
    exact hz
end Go.Proofs.YtbagfepdmmfegaaDoor

namespace Go.Proofs.YtbagfepdmmfegaaDoor
open Go.RowKit Go.Shelf

/-! ### one block less -/
theorem mem_less (S : Ti.St) (hs : S.blocks.Pairwise (fun a b => a.1 < b.1)) (k : Nat) (hk : k < S.blocks.length) (x : Int × Int) : x ∈ (S.less k).blocks ↔ x ∈ S.blocks ∧ x.1 ≠ (Ti.bk S.blocks k).1 := by
  have e : S.blocks = S.blocks.take k ++ (Ti.bk S.blocks k :: S.blocks.drop (k + 1)) := by
    have : Ti.bk S.blocks k = S.blocks[k] := by simp [Ti.bk, hk]
    rw [this, ← List.drop_eq_getElem_cons hk, List.take_append_drop]
  rw [e] at hs
  obtain ⟨h1, h2, h3⟩ := List.pairwise_append.1 hs
  have h4 := (List.pairwise_cons.1 h2).1
  constructor
  · intro h
    refine ⟨Ti.less_mem h, ?_⟩
    rcases List.mem_append.1 h with h | h
    · have := h3 x h _ List.mem_cons_self; omega
    · have := h4 x h; omega
  · rintro ⟨h, hne⟩
    rw [e] at h
    rcases List.mem_append.1 h with h | h
    · exact List.mem_append_left _ h
    · rcases List.mem_cons.1 h with h | h
      · rw [h] at hne; exact absurd rfl hne
      · exact List.mem_append_right _ h
theorem sizeAt_less (S : Ti.St) (hs : S.blocks.Pairwise (fun a b => a.1 < b.1)) (k : Nat) (hk : k < S.blocks.length) (a : Int) : sizeAt (S.less k).blocks a = if a = (Ti.bk S.blocks k).1 then 0 else sizeAt S.blocks a := by
  have hs' : (S.less k).blocks.Pairwise (fun a b => a.1 < b.1) := hs.sublist (Ti.less_sub S k)
  by_cases e : a = (Ti.bk S.blocks k).1
  · rw [if_pos e]
    apply sizeAt_none
    intro x hx hxa
    exact ((mem_less S hs k hk x).1 hx).2 (hxa.trans e)
  · rw [if_neg e]
    by_cases h : ∃ x ∈ S.blocks, x.1 = a
    · obtain ⟨x, hx, ex⟩ := h
      rw [← ex, sizeAt_mem _ hs x hx, sizeAt_mem _ hs' x ((mem_less S hs k hk x).2 ⟨hx, by rw [ex]; exact e⟩)]
    · rw [sizeAt_none S.blocks a (fun x hx ex => h ⟨x, hx, ex⟩), sizeAt_none]
      intro x hx ex
      exact h ⟨x, Ti.less_mem hx, ex⟩
theorem cover_less (S : Ti.St) (hs : S.blocks.Pairwise (fun a b => a.1 < b.1)) (k : Nat) (hk : k < S.blocks.length) (g : Int) (hc : Ti.covers (Ti.bk S.blocks k) g = false) : Ti.coverTo (S.less k).blocks g (S.less k).blocks.length = Ti.coverTo S.blocks g S.blocks.length := by
  rw [Bool.eq_iff_iff, cover_mem, cover_mem]
  constructor
  · rintro ⟨x, hx, e⟩; exact ⟨x, Ti.less_mem hx, e⟩
  · rintro ⟨x, hx, e⟩
    refine ⟨x, (mem_less S hs k hk x).2 ⟨hx, fun he => ?_⟩, e⟩
    have h1 : x.2 = (Ti.bk S.blocks k).2 := by rw [← sizeAt_mem _ hs x hx, he, sizeAt_mem _ hs _ (Ti.bk_mem hk)]
    have h2 : x = Ti.bk S.blocks k := Prod.ext he h1
    rw [h2, hc] at e; cases e

/-- a slot given back -/
theorem PrAt.lessSlot {w : World} {m bf bz : Nat} {S : Ti.St} (h : PrAt w m bf bz S) (hne : m ≠ bf ∧ bf ≠ bz) (hs : S.blocks.Pairwise (fun a b => a.1 < b.1)) (k : Nat) (hk : k < S.blocks.length) (hz : (Ti.bk S.blocks k).2 ≤ 32) (f n : Nat) (c : Int) (hf : f < S.sups.length) (his : (S.sup f).is = true ∧ (S.sup f).cls = c)
    (hn : (n : Int) < Ti.slots c) (ha : (Ti.bk S.blocks k).1 = 64 * f + n * Ti.width c) :
    PrAt (w.setCell ⟨bf, f * 11 + 3 + n, none⟩ (.int .i64 0)) m bf bz (S.less k) := by
  have hw := Ti.width_slots c
  have hcov := fun g => cover_less S hs k hk g (covers_small _ hz g)
  have hsz := sizeAt_less S hs k hk
  refine ⟨?_, ?_, ?_⟩
  · rw [heap_set_ne hne.1]
    exact h.hd
  · have hc := (FrAt.cells h.fr).set f hf (3 + n) (by omega) 0
    have e : f * 11 + (3 + n) = f * 11 + 3 + n := by omega
    rw [e] at hc
    refine hc.fr (S := S.less k) _ ?_
    intro g hg j hj
    unfold fv pk ph pc slotOf
    show (if g = f ∧ j = 3 + n then 0 else if j = 0 then (if (S.sup g).is = true then _ else _) else _) = (if j = 0 then (if (S.sup g).is = true then _ else if Ti.coverTo (S.less k).blocks g (S.less k).blocks.length = true then _ else _) else if j = 1 then (if (S.sup g).is = true then (S.sup g).heap else _) else if j = 2 then (if (S.sup g).is = true then (S.sup g).cls else _) else if (S.sup g).is = true ∧ ((j - 3 : Nat) : Int) < Ti.slots (S.sup g).cls then sizeAt (S.less k).blocks (64 * g + ((j - 3 : Nat) : Int) * Ti.width (S.sup g).cls) else if (S.sup g).is = false ∧ j - 3 = 0 then sizeAt (S.less k).blocks (64 * g) else 0)
    rw [hcov, hsz, hsz]
    by_cases e0 : j = 0
    · subst e0; simp; omega
    · by_cases e1 : j = 1
      · subst e1; simp; omega
      · by_cases e2 : j = 2
        · subst e2; simp; omega
        · simp only [if_neg e0, if_neg e1, if_neg e2]
          have hb2 := Ti.slot_bounds c n hn
          by_cases hcc : (S.sup g).is = true ∧ ((j - 3 : Nat) : Int) < Ti.slots (S.sup g).cls
          · rw [if_pos hcc, if_pos hcc]
            have hb1 := Ti.slot_bounds (S.sup g).cls (j - 3) hcc.2
            by_cases e : g = f ∧ j = 3 + n
            · rw [if_pos e, if_pos]
              rw [e.1, e.2, his.2, ha, show 3 + n - 3 = n by omega]
            · rw [if_neg e, if_neg]
              intro hh
              rw [ha] at hh
              apply e
              have ei : g = f := by omega
              subst ei
              refine ⟨rfl, ?_⟩
              rw [his.2] at hh hb1
              have : ((j - 3 : Nat) : Int) * Ti.width c = n * Ti.width c := by omega
              rcases hw with ⟨e, _⟩ | ⟨e, _⟩ | ⟨e, _⟩ <;> rw [e] at this <;> omega
          · rw [if_neg hcc, if_neg hcc, if_neg (c := g = f ∧ j = 3 + n)]
            · by_cases hd : (S.sup g).is = false ∧ j - 3 = 0
              · rw [if_pos hd, if_pos hd, if_neg]
                intro hh
                rw [ha] at hh
                have ei : g = f := by omega
                rw [ei, his.1] at hd
                cases hd.1
              · rw [if_neg hd, if_neg hd]
            · rintro ⟨rfl, rfl⟩
              exact hcc ⟨his.1, by rw [his.2, show 3 + n - 3 = n by omega]; exact hn⟩
  · obtain ⟨cc, q1, q2, q3⟩ := h.bytes
    exact ⟨cc, (heap_set_ne hne.2.symm _ _).trans q1, q2, q3⟩

/-- what is gone behind a Free is of the block's class -/
theorem gone_cls (S : Ti.St) (hI : Ti.Inv S) (k : Nat) (hk : k < S.blocks.length) (f : Nat) (hf : (Ti.bk S.blocks k).1 / 64 = f) (j : Nat) (hg : ((S.less k).give (S.sup f).heap (S.sup f).cls).gone j) :
    (((S.less k).give (S.sup f).heap (S.sup f).cls).sup j).cls = (S.sup f).cls := by
  have key : ∀ j, (S.sup j).is = true → (S.sup j).heap = 0 → (S.less k).used j = 0 → (S.sup j).cls = (S.sup f).cls := by
    intro j h1 h2 h3
    have h4 := hI.zero j h1 h2
    have h5 := Ti.used_less S k hk j
    by_cases e : (Ti.bk S.blocks k).1 / 64 = j
    · have : j = f := by omega
      rw [this]
    · rw [if_neg e] at h5; omega
  by_cases hy : 0 < (S.sup f).heap ∧ (S.less k).tooMuch (S.sup f).heap (S.sup f).cls = true
  · rw [Ti.give_yes _ _ _ hy] at hg ⊢
    have hI0 := Ti.inv0_less S hI.toInv0 k
    have hpos : 0 < (S.less k).held (S.sup f).heap (S.sup f).cls := by
      have h1 := hy.2
      unfold Ti.St.tooMuch at h1
      simp at h1
      have := Ti.charged_nn (S.less k) (S.sup f).heap (S.sup f).cls (S.less k).sups.length
      have h2 := h1.2
      unfold Ti.St.charged at h2
      omega
    obtain ⟨e, he, hee, hm, _⟩ := Ti.emptiest_of (S.less k) hI0 _ _ hpos
    rw [hee, Int.toNat_natCast] at hg ⊢
    obtain ⟨g1, g2, g3⟩ := hg
    rw [Ti.sup_setSup _ _ _ _ he] at g1 g2 ⊢
    by_cases ej : j = e
    · rw [if_pos ej]; exact (mi_is hm).2.2
    · rw [if_neg ej] at g1 g2 ⊢
      exact key j g1 g2 g3
  · rw [Ti.give_no _ _ _ hy] at hg ⊢
    exact key j hg.1 hg.2.1 hg.2.2
end Go.Proofs.YtbagfepdmmfegaaDoor
