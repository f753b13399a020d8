import Derived.Test.YtbagfepdmmfegaaDoorK15
import Derived.Laws.ResultCell
set_option linter.unusedVariables false
set_option linter.unusedSimpArgs false
namespace Go.Proofs.YtbagfepdmmfegaaDoor
open Go.RowKit Go.Shelf

/-- the tithe at x is S, and has the blocks fp; the error's variable is laid -/
def PrIs (W : World) (x : Nat) (fp : Nat → Prop) (S : Ti.St) : Prop := ∃ m bf bz v, TiAt W x m bf bz S ∧ ErrAt W v ∧ fp x ∧ fp m ∧ fp bf ∧ fp bz ∧ ¬ fp 0
theorem TiAt.ext {X : Nat → Prop} {A B : World} {t m bf bz : Nat} {S : Ti.St} (h : TiAt A t m bf bz S) (he : Ext X A B) (h0 : ¬ X t) (h1 : ¬ X m) (h2 : ¬ X bf) (h3 : ¬ X bz) : TiAt B t m bf bz S := ⟨he.keep h.hd h0, h.pr.ext he h1 h2 h3, h.ne, h.apart⟩
theorem PrIs.keep {W W' : World} {x : Nat} {fp X : Nat → Prop} {S : Ti.St} (h : PrIs W x fp S) (he : Ext X W W') (hx : ∀ k, fp k → ¬ X k) (h0 : ¬ X 0) : PrIs W' x fp S := by
  obtain ⟨m, bf, bz, v, ht, hg, f1, f2, f3, f4, f5⟩ := h
  exact ⟨m, bf, bz, v, ht.ext he (hx _ f1) (hx _ f2) (hx _ f3) (hx _ f4), hg.ext he h0, f1, f2, f3, f4, f5⟩
theorem TiAt.lt {w : World} {t m bf bz : Nat} {S : Ti.St} (h : TiAt w t m bf bz S) : t < w.heap.size ∧ m < w.heap.size ∧ bf < w.heap.size ∧ bz < w.heap.size :=
  ⟨lt_of_heap h.hd, lt_of_heap h.pr.hd, let ⟨_, q, _⟩ := h.pr.fr; lt_of_heap q, let ⟨_, q, _⟩ := h.pr.bytes; lt_of_heap q⟩

theorem band_false {p q : Prop} [Decidable p] [Decidable q] (h : ¬ (p ∧ q)) : (decide p && decide q) = false := by
  rw [← Bool.decide_and]; exact decide_eq_false h
/-- what a call of the program leaves: its own blocks, new ones aside -/
def PPst (W W' : World) (x : Nat) (fp : Nat → Prop) (S' : Ti.St) : Prop := PrIs W' x fp S' ∧ Ext fp W W'

set_option maxRecDepth 100000 in
set_option maxHeartbeats 2000000 in
theorem malloc_face (W : World) (x : Nat) (fp : Nat → Prop) (S : Ti.St) (a b : Int) (h : PrIs W x fp S) (hI : Ti.Inv S) :
    Calls Tryd.prog 21 #[.pointer (some ⟨x, 0, none⟩), .int .i64 a, .int .i64 b] W fun e W' => e = .returned (.tuple #[.int .i64 (S.malloc a b).1.1, .int .i64 (S.malloc a b).1.2]) ∧ PPst W W' x fp (S.malloc a b).2 := by
  have h' := h
  obtain ⟨m, bf, bz, v, ht, hg, f1, f2, f3, f4, f5⟩ := h
  by_cases ha : 0 ≤ a ∧ a ≤ 1000
  · have da : (decide (0 ≤ a) && decide (a ≤ 1000)) = true := by simp [ha.1, ha.2]
    by_cases hb : 1 ≤ b ∧ b ≤ 256
    · have db : (decide (1 ≤ b) && decide (b ≤ 256)) = true := by simp [hb.1, hb.2]
      have H1 : Hid _ := takeM_any W m bf bz S a b ht.pr ht.ne hI.toInv0 ha.1 ha.2 hb.1 hb.2
      have H2 : Hid _ := inside_any W x m bf bz S ht
      have Hg : Hid _ := hg
      clear hg
      generalize S.malloc a b = r at *
      go_enter Tryd.func21, Tryd.ntmps21
      go_wp2_with fail
      refine (within_any _ _ _ _).mono ?_
      rintro e w' ⟨rfl, rfl⟩
      rw [da]
      go_wp2_with fail
      refine (within_any _ _ _ _).mono ?_
      rintro e w' ⟨rfl, rfl⟩
      rw [db]
      go_wp2_with fail
      refine Calls.mono H2.out ?_
      rintro e w' ⟨rfl, rfl⟩
      go_wp2_with fail
      refine Calls.mono H1.out ?_
      rintro e w' ⟨hr, rfl, hP', hE⟩
      have hfin : PPst W w' x fp r.2 := by
        refine ⟨⟨m, bf, bz, v, ⟨hE.keep ht.hd ?_, hP', ht.ne, ht.apart⟩, ErrAt.ext (v := v) Hg.out hE ?_, f1, f2, f3, f4, f5⟩, hE.mono ?_⟩
        · rintro (e | e)
          · exact ht.apart.2.1 e
          · exact ht.apart.2.2 e
        · rintro (e | e)
          · exact f5 (by rw [show 0 = bf from e]; exact f3)
          · exact f5 (by rw [show 0 = bz from e]; exact f4)
        · rintro k _ (e | e)
          · rw [show k = bf from e]; exact f3
          · rw [show k = bz from e]; exact f4
      clear H1 H2 hE hP'
      obtain ⟨⟨r1, r2⟩, T⟩ := r
      rcases hr with hr | hr
      · have hr : r2 = 0 := hr
        subst hr
        go_wp2
        go_ret2
        exact ⟨rfl, hfin⟩
      · have hr : (r1, r2) = (0, 2) := hr
        obtain ⟨rfl, rfl⟩ := Prod.mk.inj hr
        go_wp2
        go_ret2
        exact ⟨rfl, hfin⟩
    · have db : (decide (1 ≤ b) && decide (b ≤ 256)) = false := band_false hb
      have Hm : Hid (S.malloc a b = ((0, 1), S)) := by show _ = _; unfold Ti.St.malloc; rw [if_pos (by omega)]
      go_enter Tryd.func21, Tryd.ntmps21
      go_wp2_with fail
      refine (within_any _ _ _ _).mono ?_
      rintro e w' ⟨rfl, rfl⟩
      rw [da]
      go_wp2_with fail
      refine (within_any _ _ _ _).mono ?_
      rintro e w' ⟨rfl, rfl⟩
      rw [db]
      go_wp2
      go_ret2
      rw [Hm.out]
      exact ⟨rfl, h', Ext.refl _ _⟩
  · have da : (decide (0 ≤ a) && decide (a ≤ 1000)) = false := band_false ha
    have Hm : Hid (S.malloc a b = ((0, 1), S)) := by show _ = _; unfold Ti.St.malloc; rw [if_pos (by omega)]
    go_enter Tryd.func21, Tryd.ntmps21
    go_wp2_with fail
    refine (within_any _ _ _ _).mono ?_
    rintro e w' ⟨rfl, rfl⟩
    rw [da]
    go_wp2
    go_ret2
    rw [Hm.out]
    exact ⟨rfl, h', Ext.refl _ _⟩

theorem freeFrames_face (W : World) (x : Nat) (fp : Nat → Prop) (S : Ti.St) (h : PrIs W x fp S) (hI : Ti.Inv S) :
    Calls Tryd.prog 17 #[.pointer (some ⟨x, 0, none⟩)] W fun e W' => e = .returned (.int .i64 (S.freeFrames : Nat)) ∧ Ext none1 W W' := by
  obtain ⟨m, bf, bz, v, ht, hg, f1, f2, f3, f4, f5⟩ := h
  have H2 : Hid _ := inside_any W x m bf bz S ht
  have H1 : Hid _ := memFreeFrames_any W m bf bz S ht.pr hI.f16
  go_enter Tryd.func17, Tryd.ntmps17
  go_wp2_with fail
  refine Calls.mono H2.out ?_
  rintro e w' ⟨rfl, rfl⟩
  go_wp2_with fail
  refine Calls.mono H1.out ?_
  rintro e w' ⟨rfl, hE⟩
  go_wp2
  go_ret
  exact ⟨rfl, hE⟩

theorem results_stats (tmps : Array Value) (w : World) (g : Nat) (c0 c1 : Value) (e : Value) (hp : tmps.getD 6 undef = .pointer (some ⟨g, 0, none⟩)) (h7 : tmps.getD 7 undef = e) (hg : w.heap[g]? = some (.cells #[c0, c1] 44 (0, 0))) :
    (results Tryd.f18 tmps).run Tryd.prog w = .ok (.tuple #[.agg #[c0, c1], e]) w := by
  have hl := run_loadVar_row (P := Tryd.prog) w g 44 44 #[c0, c1] (0, 0) _ hg Tryd.underlying44 rfl (by kernel_rfl)
  rw [results_cell_tmp rfl, hp, h7]
  simp [asAddr, hl, Result.andThen]

set_option maxRecDepth 100000 in
set_option maxHeartbeats 2000000 in
theorem stats_face (W : World) (x : Nat) (fp : Nat → Prop) (S : Ti.St) (a b : Int) (h : PrIs W x fp S) (hI : Ti.Inv S) :
    Calls Tryd.prog 18 #[.pointer (some ⟨x, 0, none⟩), .int .i64 a, .int .i64 b] W fun e W' => e = .returned (.tuple #[.agg #[.int .i64 (S.stats a b).1.1, .int .i64 (S.stats a b).1.2], .int .i64 (S.stats a b).2]) ∧ Ext none1 W W' := by
  obtain ⟨m, bf, bz, v, ht, hg, f1, f2, f3, f4, f5⟩ := h
  have H2 : Hid (∀ o : Obj, _) := fun o => inside_any (W.alloc o) x m bf bz S (ht.keep0 ((Ext.refl _ _).alloc _))
  have H3 : Hid (∀ o : Obj, _) := fun o => heapsM_any (W.alloc o) m bf bz S (ht.pr.keep0 ((Ext.refl _ _).alloc _))
  clear hg
  by_cases ha : 0 ≤ a ∧ a ≤ S.heaps
  · have da : (decide (0 ≤ a) && decide (a ≤ S.heaps)) = true := by simp [ha.1, ha.2]
    by_cases hb : 0 ≤ b ∧ b ≤ 2
    · have db : (decide (0 ≤ b) && decide (b ≤ 2)) = true := by simp [hb.1, hb.2]
      have Hm : Hid (S.stats a b = ((S.held a b, S.charged a b), 0)) := by show _ = _; unfold Ti.St.stats; rw [if_neg (by omega)]
      have H1 : Hid (∀ o : Obj, _) := fun o => statsM_any (W.alloc o) m bf bz S a b (ht.pr.keep0 ((Ext.refl _ _).alloc _)) hI.toInv0 hb.1 hb.2
      have hsl : ∀ o : Obj, (W.alloc o).heap[W.heap.size]? = some o := fun o => heap_alloc_new _ _
      go_enter Tryd.func18, Tryd.ntmps18
      go_wp2_with fail
      refine Calls.mono (H2.out _) ?_
      rintro e w' ⟨rfl, rfl⟩
      go_wp2_with fail
      refine Calls.mono (H3.out _) ?_
      rintro e w' ⟨rfl, rfl⟩
      go_wp2_with fail
      refine (within_any _ _ _ _).mono ?_
      rintro e w' ⟨rfl, rfl⟩
      rw [da]
      go_wp2_with fail
      refine (within_any _ _ _ _).mono ?_
      rintro e w' ⟨rfl, rfl⟩
      rw [db]
      go_wp2_with fail
      refine Calls.mono (H1.out _) ?_
      rintro e w2 ⟨rfl, hE⟩
      have hbx := hE.keep (hsl _) (fun x => x)
      have c0 := cell_of hbx 0
      have c1 := cell_of hbx 1
      have d0 := frozen_of hbx 0
      have d1 := frozen_of hbx 1
      simp at c0 c1
      have hE1 : Ext none1 W w2 := ((Ext.refl _ _).alloc _).trans hE
      have Hxt : Hid (∀ u1 u2, Ext none1 W ((w2.setCell ⟨W.heap.size, 0, none⟩ u1).setCell ⟨W.heap.size, 1, none⟩ u2)) := fun u1 u2 => (hE1.setCell ⟨W.heap.size, 0, none⟩ (.inr (Nat.le_refl _)) u1).setCell ⟨W.heap.size, 1, none⟩ (.inr (Nat.le_refl _)) u2
      clear H1 H2 H3 hsl
      generalize S.held a b = hh at *
      generalize S.charged a b = cc at *
      have hs2 := heap_set (heap_set hbx 0 (.int .i64 hh)) 1 (.int .i64 cc)
      go_wp2
      refine bodyPost_ret (results_stats _ _ W.heap.size _ _ _ rfl rfl hs2) rfl ?_
      rw [Hm.out]
      exact ⟨rfl, Hxt.out _ _⟩
    · have db : (decide (0 ≤ b) && decide (b ≤ 2)) = false := band_false hb
      have Hm : Hid (S.stats a b = ((0, 0), 1)) := by show _ = _; unfold Ti.St.stats; rw [if_pos (by omega)]
      have hbx : (W.alloc (.cells #[.int .i64 0, .int .i64 0] 44)).heap[W.heap.size]? = some (.cells #[.int .i64 0, .int .i64 0] 44 (0, 0)) := heap_alloc_new _ _
      go_enter Tryd.func18, Tryd.ntmps18
      go_wp2_with fail
      refine Calls.mono (H2.out _) ?_
      rintro e w' ⟨rfl, rfl⟩
      go_wp2_with fail
      refine Calls.mono (H3.out _) ?_
      rintro e w' ⟨rfl, rfl⟩
      go_wp2_with fail
      refine (within_any _ _ _ _).mono ?_
      rintro e w' ⟨rfl, rfl⟩
      rw [da]
      go_wp2_with fail
      refine (within_any _ _ _ _).mono ?_
      rintro e w' ⟨rfl, rfl⟩
      rw [db]
      go_wp2
      refine bodyPost_ret (results_stats _ _ W.heap.size _ _ _ rfl rfl hbx) rfl ?_
      rw [Hm.out]
      exact ⟨rfl, (Ext.refl _ _).alloc _⟩
  · have da : (decide (0 ≤ a) && decide (a ≤ S.heaps)) = false := band_false ha
    have Hm : Hid (S.stats a b = ((0, 0), 1)) := by show _ = _; unfold Ti.St.stats; rw [if_pos (by omega)]
    have hbx : (W.alloc (.cells #[.int .i64 0, .int .i64 0] 44)).heap[W.heap.size]? = some (.cells #[.int .i64 0, .int .i64 0] 44 (0, 0)) := heap_alloc_new _ _
    go_enter Tryd.func18, Tryd.ntmps18
    go_wp2_with fail
    refine Calls.mono (H2.out _) ?_
    rintro e w' ⟨rfl, rfl⟩
    go_wp2_with fail
    refine Calls.mono (H3.out _) ?_
    rintro e w' ⟨rfl, rfl⟩
    go_wp2_with fail
    refine (within_any _ _ _ _).mono ?_
    rintro e w' ⟨rfl, rfl⟩
    rw [da]
    go_wp2
    refine bodyPost_ret (results_stats _ _ W.heap.size _ _ _ rfl rfl hbx) rfl ?_
    rw [Hm.out]
    exact ⟨rfl, (Ext.refl _ _).alloc _⟩
end Go.Proofs.YtbagfepdmmfegaaDoor

namespace Go.Proofs.YtbagfepdmmfegaaDoor
open Go.RowKit Go.Shelf

theorem byte_range (S : Ti.St) (hI : Ti.Inv0 S) (k : Nat) : 0 ≤ S.byte k ∧ S.byte k ≤ 255 := by
  unfold Ti.St.byte
  by_cases h : k < S.bytes.length
  · rw [List.getElem?_eq_getElem h]
    exact hI.by0 _ (List.getElem_mem h)
  · rw [List.getElem?_eq_none (by omega)]; simp

set_option maxRecDepth 100000 in
set_option maxHeartbeats 800000 in
theorem freeCl_any (w : World) (bt ba x m bf bz : Nat) (S : Ti.St) (a : Int) (v : Value) (ht : TiAt w x m bf bz S) (hI : Ti.Inv S) (hg : ErrAt w v)
    (hbt : w.heap[bt]? = some (.cells #[.pointer (some ⟨x, 0, none⟩)] 34 (0, 0))) (hba : w.heap[ba]? = some (.cells #[.int .i64 a] 3 (0, 0))) :
    Calls Tryd.prog 41 #[.pointer (some ⟨bt, 0, none⟩), .pointer (some ⟨ba, 0, none⟩)] w fun e w' =>
      (0 ≤ Ti.atI S.blocks a ∧ e = .returned (.tuple #[]) ∧ PrAt w' m bf bz (S.freeAt a).2 ∧ Ext (one bf) w w') ∨ (Ti.atI S.blocks a < 0 ∧ e = .panicked [{ v := .iface 142 v, recovered := false }] ∧ Ext none1 w w') := by
  have z0 := cell_of hbt 0
  have z1 := cell_of hba 0
  simp at z0 z1
  have l0 := lt_of_heap hbt
  have l1 := lt_of_heap hba
  have n1 : ¬ bt = bf := by
    intro e
    obtain ⟨c, q, _⟩ := ht.pr.fr
    rw [← e, hbt] at q
    simp at q
  have n2 : ¬ ba = bf := by
    intro e
    obtain ⟨c, q, _⟩ := ht.pr.fr
    rw [← e, hba] at q
    simp at q
  have hc1 : ∀ (w' : World) (o : Nat), Ext (one bf) w w' → w'.cell? ⟨bt, o, none⟩ = w.cell? ⟨bt, o, none⟩ := fun w' o hE => by
    show World.cell? _ _ = World.cell? _ _
    unfold World.cell?
    simp only [hE.block bt l0 (fun h => n1 h)]
  have hc2 : ∀ (w' : World) (o : Nat), Ext (one bf) w w' → w'.cell? ⟨ba, o, none⟩ = w.cell? ⟨ba, o, none⟩ := fun w' o hE => by
    show World.cell? _ _ = World.cell? _ _
    unfold World.cell?
    simp only [hE.block ba l1 (fun h => n2 h)]
  have HI : Hid (∀ w1, Ext none1 w w1 → _) := fun w1 hE => inside_any w1 x m bf bz S (ht.keep0 hE)
  have HF : Hid (∀ w1, Ext none1 w w1 → _) := fun w1 hE => memFree_any w1 m bf bz S (ht.pr.keep0 hE) ht.ne hI a v (hg.ext hE (fun x => x))
  clear hbt hba hg
  go_enter Tryd.func41, Tryd.ntmps41
  go_wp2
  refine wp_region_held_drew (S := fun w' => Ext (one bf) w w') (by kernel_rfl) (Ext.refl _ _).drew (fun hHeld => ?_)
  refine take_dst 0 2 (v := ?_) rfl (by kernel_rfl) (by kernel_rfl) (by kernel_rfl) rfl (fun _ _ _ h => h) (Or.inl ⟨by rfl, ?_⟩) (by assumption) ?_
  rotate_left
  · intro wx hSw
    first | (go_simp; done) | (go_simp; with_reducible rfl)
  simp only [Act.put, List.setIfInBounds_toArray, List.set_cons_zero, List.set_cons_succ]
  refine take_dst 2 4 (v := ?_) rfl (by kernel_rfl) (by kernel_rfl) (by kernel_rfl) rfl (fun _ _ _ h => h) (Or.inl ⟨by rfl, ?_⟩) (by assumption) ?_
  rotate_left
  · intro wx hSw
    first | (go_simp; done) | (go_simp; with_reducible rfl)
  simp only [Act.put, List.setIfInBounds_toArray, List.set_cons_zero, List.set_cons_succ]
  refine wpAnyH_ready (rs := [1]) (by kernel_rfl) (by simp) ?_
  refine AllReadyH.cons (o := { dst := some 3, op := Op.call { callee := Callee.value (Operand.func 29), args := #[Operand.tmp 2], argTypes := #[34] }, type := 69, pos := "tithe.go:36", after := #[{ on := 0, ground := Ground.data }], guard := none }) rfl (fun K hK => ?_) ?_
  · go_simp
    refine Calls.mono (HI.out _ (Ext.refl _ _).drew) ?_
    rintro e w1 ⟨rfl, rfl⟩
    refine hK.out _ _ hHeld (fun hHeld => ?_)
    clear hK K
    try simp only [Act.put, List.setIfInBounds_toArray, List.set_cons_zero, List.set_cons_succ]
    refine wpAnyH_ready (rs := [3]) (by kernel_rfl) (by simp) ?_
    refine AllReadyH.cons (o := { dst := some 5, op := Op.call { callee := Callee.value (Operand.func 42), args := #[Operand.tmp 3, Operand.tmp 4], argTypes := #[69, 3] }, type := 0, pos := "tithe.go:36", after := #[{ on := 1, ground := Ground.data }, { on := 2, ground := Ground.data }, { on := 1, ground := Ground.chain }], guard := none }) rfl (fun K hK => ?_) ?_
    · go_simp
      refine Calls.mono (HF.out _ (Ext.refl _ _).drew) ?_
      rintro e w2 (h1 | ⟨hno, rfl, hE2⟩)
      rotate_left
      · exact ⟨rfl, .inr ⟨hno, rfl, (Ext.refl _ _).drew.trans hE2⟩⟩
      obtain ⟨hyes, rfl, hP2, hE2⟩ := h1
      refine hK.out _ _ ((Ext.refl _ _).drew.trans hE2) (fun hHeld => ?_)
      clear hK K
      try simp only [Act.put, List.setIfInBounds_toArray, List.set_cons_zero, List.set_cons_succ]
      refine wpAnyH_done (by kernel_rfl) ?_ _
      exact ⟨rfl, _, results_none rfl _ _ _, .inl ⟨hyes, rfl, hP2, (Ext.refl _ _).drew.trans hE2⟩⟩
    exact AllReadyH.nil
  exact AllReadyH.nil

set_option maxRecDepth 100000 in
set_option maxHeartbeats 800000 in
theorem loadCl_any (w : World) (bt ba bx x m bf bz : Nat) (S : Ti.St) (a : Int) (v : Value) (ht : TiAt w x m bf bz S) (hI : Ti.Inv S) (hg : ErrAt w v) (a0 : -9223372036854775808 ≤ a) (a1 : a ≤ 9223372036854775807) (n1 : ¬ bt = bx) (n2 : ¬ ba = bx)
    (hbt : w.heap[bt]? = some (.cells #[.pointer (some ⟨x, 0, none⟩)] 34 (0, 0))) (hba : w.heap[ba]? = some (.cells #[.int .i64 a] 3 (0, 0))) (hbx : w.heap[bx]? = some (.cells #[.int .i64 0] 3 (0, 0))) :
    Calls Tryd.prog 37 #[.pointer (some ⟨bt, 0, none⟩), .pointer (some ⟨ba, 0, none⟩), .pointer (some ⟨bx, 0, none⟩)] w fun e w' =>
      (S.byte1 a = true ∧ e = .returned (.tuple #[]) ∧ ∃ w2, Ext none1 w w2 ∧ w' = w2.setCell ⟨bx, 0, none⟩ (.int .i64 (S.byte a.toNat))) ∨ (S.byte1 a = false ∧ e = .panicked [{ v := .iface 142 v, recovered := false }] ∧ Ext none1 w w') := by
  have z0 := cell_of hbt 0
  have z1 := cell_of hba 0
  simp at z0 z1
  have l0 := lt_of_heap hbt
  have l1 := lt_of_heap hba
  have hc1 : ∀ (w' : World) (o : Nat), Ext (one bx) w w' → w'.cell? ⟨bt, o, none⟩ = w.cell? ⟨bt, o, none⟩ := fun w' o hE => by
    show World.cell? _ _ = World.cell? _ _
    unfold World.cell?
    simp only [hE.block bt l0 (fun h => n1 h)]
  have hc2 : ∀ (w' : World) (o : Nat), Ext (one bx) w w' → w'.cell? ⟨ba, o, none⟩ = w.cell? ⟨ba, o, none⟩ := fun w' o hE => by
    show World.cell? _ _ = World.cell? _ _
    unfold World.cell?
    simp only [hE.block ba l1 (fun h => n2 h)]
  have HI : Hid (∀ w1, Ext none1 w w1 → _) := fun w1 hE => inside_any w1 x m bf bz S (ht.keep0 hE)
  have HF : Hid (∀ w1, Ext none1 w w1 → _) := fun w1 hE => memLoad_any w1 m bf bz S (ht.pr.keep0 hE) hI.toInv0 a a0 a1 v (hg.ext hE (fun x => x))
  have hb0 := byte_range S hI.toInv0 a.toNat
  have hb1 := hb0.1
  have hb2 := hb0.2
  have hwb : IntKind.i64.wrap (S.byte a.toNat) = S.byte a.toNat := by rw [IntKind.wrap_i64]; omega
  clear hbt hba hg hb0
  go_enter Tryd.func37, Tryd.ntmps37
  go_wp2
  refine wp_region_held_drew (S := fun w' => Ext (one bx) w w') (by kernel_rfl) (Ext.refl _ _).drew (fun hHeld => ?_)
  refine take_dst 0 3 (v := ?_) rfl (by kernel_rfl) (by kernel_rfl) (by kernel_rfl) rfl (fun _ _ _ h => h) (Or.inl ⟨by rfl, ?_⟩) (by assumption) ?_
  rotate_left
  · intro wx hSw
    first | (go_simp; done) | (go_simp; with_reducible rfl)
  simp only [Act.put, List.setIfInBounds_toArray, List.set_cons_zero, List.set_cons_succ]
  refine take_dst 2 5 (v := ?_) rfl (by kernel_rfl) (by kernel_rfl) (by kernel_rfl) rfl (fun _ _ _ h => h) (Or.inl ⟨by rfl, ?_⟩) (by assumption) ?_
  rotate_left
  · intro wx hSw
    first | (go_simp; done) | (go_simp; with_reducible rfl)
  simp only [Act.put, List.setIfInBounds_toArray, List.set_cons_zero, List.set_cons_succ]
  refine wpAnyH_ready (rs := [1]) (by kernel_rfl) (by simp) ?_
  refine AllReadyH.cons (o := { dst := some 4, op := Op.call { callee := Callee.value (Operand.func 29), args := #[Operand.tmp 3], argTypes := #[34] }, type := 69, pos := "tithe.go:56", after := #[{ on := 0, ground := Ground.data }], guard := none }) rfl (fun K hK => ?_) ?_
  · go_simp
    refine Calls.mono (HI.out _ (Ext.refl _ _).drew) ?_
    rintro e w1 ⟨rfl, rfl⟩
    refine hK.out _ _ hHeld (fun hHeld => ?_)
    clear hK K
    try simp only [Act.put, List.setIfInBounds_toArray, List.set_cons_zero, List.set_cons_succ]
    refine wpAnyH_ready (rs := [3]) (by kernel_rfl) (by simp) ?_
    refine AllReadyH.cons (o := { dst := some 6, op := Op.call { callee := Callee.value (Operand.func 38), args := #[Operand.tmp 4, Operand.tmp 5], argTypes := #[69, 3] }, type := 5, pos := "tithe.go:56", after := #[{ on := 1, ground := Ground.data }, { on := 2, ground := Ground.data }, { on := 1, ground := Ground.chain }], guard := none }) rfl (fun K hK => ?_) ?_
    · go_simp
      refine Calls.mono (HF.out _ (Ext.refl _ _).drew) ?_
      rintro e w2 ⟨hE2, (h1 | ⟨hno, rfl⟩)⟩
      rotate_left
      · exact ⟨rfl, .inr ⟨hno, rfl, (Ext.refl _ _).drew.trans hE2⟩⟩
      obtain ⟨hyes, rfl⟩ := h1
      have hEw : Ext none1 w w2 := (Ext.refl _ _).drew.trans hE2
      have k0 := cell_of (hEw.keep hbx (fun x => x)) 0
      have k1 := frozen_of (hEw.keep hbx (fun x => x)) 0
      simp at k0
      refine hK.out _ _ (hEw.mono (fun _ _ x => x.elim)) (fun hHeld => ?_)
      clear hK K
      try simp only [Act.put, List.setIfInBounds_toArray, List.set_cons_zero, List.set_cons_succ]
      refine take_dst 4 7 (v := ?_) rfl (by kernel_rfl) (by kernel_rfl) (by kernel_rfl) rfl (fun _ _ _ h => h) (Or.inl ⟨by rfl, ?_⟩) (by assumption) ?_
      rotate_left
      · intro wx hSw
        first | (go_simp; done) | (go_simp; with_reducible rfl)
      simp only [Act.put, List.setIfInBounds_toArray, List.set_cons_zero, List.set_cons_succ]
      refine wpAnyH_ready (rs := [5]) (by kernel_rfl) (by simp) ?_
      refine AllReadyH.cons (o := { dst := none, op := Op.store 3 (Operand.tmp 2) (Operand.tmp 7), type := 0, pos := "tithe.go:56", after := #[{ on := 4, ground := Ground.data }, { on := 3, ground := Ground.chain }, { on := 0, ground := Ground.phase }, { on := 1, ground := Ground.phase }, { on := 2, ground := Ground.phase }, { on := 3, ground := Ground.phase }, { on := 4, ground := Ground.phase }], guard := none }) rfl (fun K hK => ?_) ?_
      · go_simp
        refine hK.out _ _ (Ext.setCell (X := one bx) (Ext.mono (Y := one bx) hEw (fun _ _ x => x.elim)) ⟨bx, 0, none⟩ (.inl rfl) _) (fun hHeld => ?_)
        clear hK K
        try simp only [Act.put, List.setIfInBounds_toArray, List.set_cons_zero, List.set_cons_succ]
        refine wpAnyH_done (by kernel_rfl) ?_ _
        exact ⟨rfl, _, results_none rfl _ _ _, .inl ⟨hyes, rfl, w2, hEw, rfl⟩⟩
      exact AllReadyH.nil
    exact AllReadyH.nil
  exact AllReadyH.nil

set_option maxRecDepth 100000 in
set_option maxHeartbeats 800000 in
theorem storeCl_any (w : World) (bt ba bv x m bf bz : Nat) (S : Ti.St) (a u : Int) (v : Value) (ht : TiAt w x m bf bz S) (hI : Ti.Inv S) (hg : ErrAt w v) (a0 : -9223372036854775808 ≤ a) (a1 : a ≤ 9223372036854775807) (u0 : 0 ≤ u) (u1 : u ≤ 255)
    (hbt : w.heap[bt]? = some (.cells #[.pointer (some ⟨x, 0, none⟩)] 34 (0, 0))) (hba : w.heap[ba]? = some (.cells #[.int .i64 a] 3 (0, 0))) (hbv : w.heap[bv]? = some (.cells #[.int .i64 u] 3 (0, 0))) :
    Calls Tryd.prog 39 #[.pointer (some ⟨bt, 0, none⟩), .pointer (some ⟨ba, 0, none⟩), .pointer (some ⟨bv, 0, none⟩)] w fun e w' =>
      (S.byte1 a = true ∧ e = .returned (.tuple #[]) ∧ PrAt w' m bf bz { S with bytes := S.bytes.set a.toNat u } ∧ Ext (one bz) w w') ∨ (S.byte1 a = false ∧ e = .panicked [{ v := .iface 142 v, recovered := false }] ∧ Ext none1 w w') := by
  have z0 := cell_of hbt 0
  have z1 := cell_of hba 0
  simp at z0 z1
  have l0 := lt_of_heap hbt
  have l1 := lt_of_heap hba
  have n1 : ¬ bt = bz := by
    intro e
    obtain ⟨c, q, _⟩ := ht.pr.bytes
    rw [← e, hbt] at q
    simp at q
  have n2 : ¬ ba = bz := by
    intro e
    obtain ⟨c, q, _⟩ := ht.pr.bytes
    rw [← e, hba] at q
    simp at q
  have hc1 : ∀ (w' : World) (o : Nat), Ext (one bz) w w' → w'.cell? ⟨bt, o, none⟩ = w.cell? ⟨bt, o, none⟩ := fun w' o hE => by
    show World.cell? _ _ = World.cell? _ _
    unfold World.cell?
    simp only [hE.block bt l0 (fun h => n1 h)]
  have hc2 : ∀ (w' : World) (o : Nat), Ext (one bz) w w' → w'.cell? ⟨ba, o, none⟩ = w.cell? ⟨ba, o, none⟩ := fun w' o hE => by
    show World.cell? _ _ = World.cell? _ _
    unfold World.cell?
    simp only [hE.block ba l1 (fun h => n2 h)]
  have HI : Hid (∀ w1, Ext none1 w w1 → _) := fun w1 hE => inside_any w1 x m bf bz S (ht.keep0 hE)
  have n3 : ¬ bv = bz := by
    intro e
    obtain ⟨c, q, _⟩ := ht.pr.bytes
    rw [← e, hbv] at q
    simp at q
  have z2 := cell_of hbv 0
  simp at z2
  have l2 := lt_of_heap hbv
  have hc3 : ∀ (w' : World) (o : Nat), Ext (one bz) w w' → w'.cell? ⟨bv, o, none⟩ = w.cell? ⟨bv, o, none⟩ := fun w' o hE => by
    show World.cell? _ _ = World.cell? _ _
    unfold World.cell?
    simp only [hE.block bv l2 (fun h => n3 h)]
  have HF : Hid (∀ w1, Ext none1 w w1 → _) := fun w1 hE => memStore_any w1 m bf bz S (ht.pr.keep0 hE) ht.ne hI.toInv0 a u a0 a1 v (hg.ext hE (fun x => x))
  have hwu : IntKind.u8.wrap u = u := by rw [IntKind.wrap_u8]; omega
  clear hbt hba hg hbv
  go_enter Tryd.func39, Tryd.ntmps39
  go_wp2
  refine wp_region_held_drew (S := fun w' => Ext (one bz) w w') (by kernel_rfl) (Ext.refl _ _).drew (fun hHeld => ?_)
  refine take_dst 0 3 (v := ?_) rfl (by kernel_rfl) (by kernel_rfl) (by kernel_rfl) rfl (fun _ _ _ h => h) (Or.inl ⟨by rfl, ?_⟩) (by assumption) ?_
  rotate_left
  · intro wx hSw
    first | (go_simp; done) | (go_simp; with_reducible rfl)
  simp only [Act.put, List.setIfInBounds_toArray, List.set_cons_zero, List.set_cons_succ]
  refine take_dst 2 5 (v := ?_) rfl (by kernel_rfl) (by kernel_rfl) (by kernel_rfl) rfl (fun _ _ _ h => h) (Or.inl ⟨by rfl, ?_⟩) (by assumption) ?_
  rotate_left
  · intro wx hSw
    first | (go_simp; done) | (go_simp; with_reducible rfl)
  simp only [Act.put, List.setIfInBounds_toArray, List.set_cons_zero, List.set_cons_succ]
  refine take_dst 3 6 (v := ?_) rfl (by kernel_rfl) (by kernel_rfl) (by kernel_rfl) rfl (fun _ _ _ h => h) (Or.inl ⟨by rfl, ?_⟩) (by assumption) ?_
  rotate_left
  · intro wx hSw
    first | (go_simp; done) | (go_simp; with_reducible rfl)
  simp only [Act.put, List.setIfInBounds_toArray, List.set_cons_zero, List.set_cons_succ]
  refine take_dst 4 7 (v := ?_) rfl (by kernel_rfl) (by kernel_rfl) (by kernel_rfl) rfl (fun _ _ _ h => h) (Or.inl ⟨by rfl, ?_⟩) (by assumption) ?_
  rotate_left
  · intro wx hSw
    first | (go_simp; done) | (go_simp; with_reducible rfl)
  simp only [Act.put, List.setIfInBounds_toArray, List.set_cons_zero, List.set_cons_succ]
  refine wpAnyH_ready (rs := [1]) (by kernel_rfl) (by simp) ?_
  refine AllReadyH.cons (o := { dst := some 4, op := Op.call { callee := Callee.value (Operand.func 29), args := #[Operand.tmp 3], argTypes := #[34] }, type := 69, pos := "tithe.go:47", after := #[{ on := 0, ground := Ground.data }], guard := none }) rfl (fun K hK => ?_) ?_
  · go_simp
    refine Calls.mono (HI.out _ (Ext.refl _ _).drew) ?_
    rintro e w1 ⟨rfl, rfl⟩
    refine hK.out _ _ hHeld (fun hHeld => ?_)
    clear hK K
    try simp only [Act.put, List.setIfInBounds_toArray, List.set_cons_zero, List.set_cons_succ]
    refine wpAnyH_ready (rs := [5]) (by kernel_rfl) (by simp) ?_
    refine AllReadyH.cons (o := { dst := some 8, op := Op.call { callee := Callee.value (Operand.func 40), args := #[Operand.tmp 4, Operand.tmp 5, Operand.tmp 7], argTypes := #[69, 3, 5] }, type := 0, pos := "tithe.go:47", after := #[{ on := 1, ground := Ground.data }, { on := 2, ground := Ground.data }, { on := 4, ground := Ground.data }, { on := 1, ground := Ground.chain }], guard := none }) rfl (fun K hK => ?_) ?_
    · go_simp
      refine Calls.mono (HF.out _ (Ext.refl _ _).drew) ?_
      rintro e w2 (h1 | ⟨hno, rfl, hE2⟩)
      rotate_left
      · exact ⟨rfl, .inr ⟨hno, rfl, (Ext.refl _ _).drew.trans hE2⟩⟩
      obtain ⟨hyes, rfl, hP2, hE2⟩ := h1
      refine hK.out _ _ ((Ext.refl _ _).drew.trans hE2) (fun hHeld => ?_)
      clear hK K
      try simp only [Act.put, List.setIfInBounds_toArray, List.set_cons_zero, List.set_cons_succ]
      refine wpAnyH_done (by kernel_rfl) ?_ _
      exact ⟨rfl, _, results_none rfl _ _ _, .inl ⟨hyes, rfl, hP2, (Ext.refl _ _).drew.trans hE2⟩⟩
    exact AllReadyH.nil
  exact AllReadyH.nil
end Go.Proofs.YtbagfepdmmfegaaDoor

namespace Go.Proofs.YtbagfepdmmfegaaDoor
open Go.RowKit Go.Shelf

theorem hmf : ∀ (fn : Fn) (first cap : Array Value) (w : World), (Instr.makeFunc fn first cap).run Tryd.prog w = .ok (.func fn first cap) w := fun _ _ _ _ => rfl

/-- from the memory's new state, a new block written besides -/
theorem PPst.of {W w2 w' : World} {x m bf bz : Nat} {fp X : Nat → Prop} {S S' : Ti.St} {v : Value} (ht : TiAt W x m bf bz S) (hg : ErrAt W v) (f1 : fp x) (f2 : fp m) (f3 : fp bf) (f4 : fp bz) (f5 : ¬ fp 0)
    (hX : ∀ k, X k → k = bf ∨ k = bz) (hE : Ext X W w2) (hP : PrAt w2 m bf bz S') (p : Nat) (hp : W.heap.size ≤ p) (hE2 : Ext (one p) w2 w') : PPst W w' x fp S' := by
  obtain ⟨l1, l2, l3, l4⟩ := ht.lt
  have hnp : ∀ k, k < W.heap.size → ¬ one p k := fun k hk e => by have : k = p := e; omega
  have hE' : Ext X W w' := hE.trans' hE2 (fun j hj e => absurd e (hnp j hj))
  refine ⟨⟨m, bf, bz, v, ⟨hE'.keep ht.hd (fun h => ?_), hP.ext hE2 (hnp _ l2) (hnp _ l3) (hnp _ l4), ht.ne, ht.apart⟩, hg.ext hE' (fun h => ?_), f1, f2, f3, f4, f5⟩, hE'.mono (fun k _ h => ?_)⟩
  · rcases hX _ h with e | e
    · exact ht.apart.2.1 e
    · exact ht.apart.2.2 e
  · rcases hX _ h with e | e
    · exact f5 (by rw [e]; exact f3)
    · exact f5 (by rw [e]; exact f4)
  · rcases hX _ h with e | e
    · rw [e]; exact f3
    · rw [e]; exact f4

/-- the block x lies as it lay -/
def KeptAt (W W' : World) (x : Nat) : Prop := ∀ o, W.heap[x]? = some o → W'.heap[x]? = some o
theorem PPst.ofX {W w2 w' : World} {x m bf bz : Nat} {X : Nat → Prop} {S : Ti.St} (ht : TiAt W x m bf bz S)
    (hX : ∀ k, X k → k = bf ∨ k = bz) (hE : Ext X W w2) (p : Nat) (hp : W.heap.size ≤ p) (hE2 : Ext (one p) w2 w') : KeptAt W w' x := by
  obtain ⟨l1, l2, l3, l4⟩ := ht.lt
  have hnp : ∀ k, k < W.heap.size → ¬ one p k := fun k hk e => by have : k = p := e; omega
  have hE' : Ext X W w' := hE.trans' hE2 (fun j hj e => absurd e (hnp j hj))
  refine fun o ho => hE'.keep ho (fun h => ?_)
  rcases hX _ h with e | e
  · exact ht.apart.2.1 e
  · exact ht.apart.2.2 e

theorem ext_set2 (w2 : World) (p : Nat) (u u' : Value) : Ext (one p) w2 ((w2.setCell ⟨p, 0, none⟩ u).setCell ⟨p, 0, none⟩ u') := ((Ext.refl (one p) w2).setCell ⟨p, 0, none⟩ (.inl rfl) u).setCell ⟨p, 0, none⟩ (.inl rfl) u'
theorem ext_set1 (w2 : World) (p : Nat) (u : Value) : Ext (one p) w2 (w2.setCell ⟨p, 0, none⟩ u) := (Ext.refl (one p) w2).setCell ⟨p, 0, none⟩ (.inl rfl) u

set_option maxRecDepth 100000 in
set_option maxHeartbeats 1000000 in
theorem free_faceT (W : World) (x : Nat) (fp : Nat → Prop) (S : Ti.St) (a : Int) (h : PrIs W x fp S) (hI : Ti.Inv S) :
    Calls Tryd.prog 24 #[.pointer (some ⟨x, 0, none⟩), .int .i64 a] W fun e W' => e = .returned (.int .i64 (S.freeAt a).1) ∧ PPst W W' x fp (S.freeAt a).2 ∧ KeptAt W W' x := by
  obtain ⟨m, bf, bz, v, ht, hg, f1, f2, f3, f4, f5⟩ := h
  obtain ⟨l1, l2, l3, l4⟩ := ht.lt
  have hb2 := heap2 W (.cells #[.pointer (some ⟨x, 0, none⟩)] 34) (.cells #[.int .i64 a] 3)
  have hE1 : Ext none1 W ((W.alloc (.cells #[.pointer (some ⟨x, 0, none⟩)] 34)).alloc (.cells #[.int .i64 a] 3)) := ((Ext.refl _ _).alloc _).alloc _
  have hs1 : ((W.alloc (.cells #[.pointer (some ⟨x, 0, none⟩)] 34)).alloc (.cells #[.int .i64 a] 3)).heap.size = W.heap.size + 2 := by simp
  have Hd : Hid _ := hs1
  generalize hWd : ((W.alloc (.cells #[.pointer (some ⟨x, 0, none⟩)] 34)).alloc (.cells #[.int .i64 a] 3)) = W1 at *
  have HW : Hid _ := hWd
  clear hWd
  have hE2 : Ext none1 W1 (W1.alloc (.cells #[.bool false] 4)) := (Ext.refl _ _).alloc _
  have hbd : (W1.alloc (.cells #[.bool false] 4)).heap[W1.heap.size]? = some (.cells #[.bool false] 4 (0, 0)) := heap_alloc_new _ _
  have hE12 := hE1.trans hE2
  have hcl := freeCl_any (W1.alloc (.cells #[.bool false] 4)) W.heap.size (W.heap.size + 1) x m bf bz S a v (ht.keep0 hE12) hI (hg.ext hE12 (fun x => x)) (hE2.keep hb2.1 (fun x => x)) (hE2.keep hb2.2 (fun x => x))
  have hdn := done_any W1 41 #[.pointer (some ⟨W.heap.size, 0, none⟩), .pointer (some ⟨W.heap.size + 1, 0, none⟩)] v
    (fun w2 => 0 ≤ Ti.atI S.blocks a ∧ PrAt w2 m bf bz (S.freeAt a).2 ∧ Ext (one bf) (W1.alloc (.cells #[.bool false] 4)) w2) (fun w2 => Ti.atI S.blocks a < 0 ∧ Ext none1 (W1.alloc (.cells #[.bool false] 4)) w2)
    (enters_of Tryd.func41 (by kernel_rfl) rfl)
    (fun w2 h2 => h2.2.2.keep hbd (fun e => by have : W1.heap.size = bf := e; omega)) (fun w2 h2 => h2.2.keep hbd (fun e => e))
    (hcl.mono (fun e w2 h2 => by
      rcases h2 with ⟨q1, q2, q3, q4⟩ | ⟨q1, q2, q3⟩
      · exact .inl ⟨q2, q1, q3, q4⟩
      · exact .inr ⟨q2, q1, q3⟩))
  have H1 : Hid _ := hdn
  clear hdn hcl
  have hm := hmf
  have hle : W.heap.size ≤ W1.heap.size := by omega
  clear hs1
  have Hyes : Hid (0 ≤ Ti.atI S.blocks a → (S.freeAt a).1 = 0) := fun h0 => by rw [Ti.freeAt_eq S a h0]; split <;> rfl
  have Hno : Hid (Ti.atI S.blocks a < 0 → S.freeAt a = (3, S)) := fun h0 => by unfold Ti.St.freeAt; rw [if_pos h0]
  go_enter Tryd.func24, Tryd.ntmps24
  go_wp2_with fail
  rw [HW.out]
  refine Calls.mono H1.out ?_
  clear H1
  rintro e w' (⟨rfl, w2, ⟨q1, q2, q3⟩, rfl⟩ | ⟨rfl, w2, ⟨q1, q2⟩, rfl⟩)
  · have hfin : PPst W _ x fp (S.freeAt a).2 ∧ KeptAt W _ x := ⟨PPst.of ht hg f1 f2 f3 f4 f5 (X := one bf) (fun k hk => .inl hk) ((hE12.mono (fun _ _ x => x.elim)).trans q3) q2 W1.heap.size hle (ext_set2 w2 W1.heap.size (.bool true) (.bool true)), PPst.ofX ht (X := one bf) (fun k hk => .inl hk) ((hE12.mono (fun _ _ x => x.elim)).trans q3) W1.heap.size hle (ext_set2 w2 W1.heap.size (.bool true) (.bool true))⟩
    have h0 := Hyes.out q1
    have H9 : Hid _ := hfin
    clear hfin q2 q3
    go_wp2
    go_ret
    rw [h0]
    exact ⟨rfl, H9.out⟩
  · have hE3 := hE12.trans q2
    have hfin : PPst W _ x fp S ∧ KeptAt W _ x := ⟨PPst.of ht hg f1 f2 f3 f4 f5 (X := none1) (fun k hk => hk.elim) hE3 (ht.pr.keep0 hE3) W1.heap.size hle (ext_set1 w2 W1.heap.size (.bool false)), PPst.ofX ht (X := none1) (fun k hk => hk.elim) hE3 W1.heap.size hle (ext_set1 w2 W1.heap.size (.bool false))⟩
    have H9 : Hid _ := hfin
    have H8 : Hid _ := Hno.out q1
    clear hfin
    go_wp2
    go_ret
    rw [H8.out]
    exact ⟨rfl, H9.out⟩

theorem free_face (W : World) (x : Nat) (fp : Nat → Prop) (S : Ti.St) (a : Int) (h : PrIs W x fp S) (hI : Ti.Inv S) :
    Calls Tryd.prog 24 #[.pointer (some ⟨x, 0, none⟩), .int .i64 a] W fun e W' => e = .returned (.int .i64 (S.freeAt a).1) ∧ PPst W W' x fp (S.freeAt a).2 :=
  (free_faceT W x fp S a h hI).mono (fun _ _ h => ⟨h.1, h.2.1⟩)

set_option maxRecDepth 100000 in
set_option maxHeartbeats 1000000 in
theorem load_face (W : World) (x : Nat) (fp : Nat → Prop) (S : Ti.St) (a : Int) (h : PrIs W x fp S) (hI : Ti.Inv S) (a0 : -9223372036854775808 ≤ a) (a1 : a ≤ 9223372036854775807) :
    Calls Tryd.prog 22 #[.pointer (some ⟨x, 0, none⟩), .int .i64 a] W fun e W' => e = .returned (.tuple #[.int .i64 (S.load a).1, .int .i64 (S.load a).2]) ∧ PPst W W' x fp S := by
  obtain ⟨m, bf, bz, v, ht, hg, f1, f2, f3, f4, f5⟩ := h
  obtain ⟨l1, l2, l3, l4⟩ := ht.lt
  have hb3 := heap3 W (.cells #[.pointer (some ⟨x, 0, none⟩)] 34) (.cells #[.int .i64 a] 3) (.cells #[.int .i64 0] 3)
  have hE1 : Ext none1 W (((W.alloc (.cells #[.pointer (some ⟨x, 0, none⟩)] 34)).alloc (.cells #[.int .i64 a] 3)).alloc (.cells #[.int .i64 0] 3)) := (((Ext.refl _ _).alloc _).alloc _).alloc _
  have hs1 : (((W.alloc (.cells #[.pointer (some ⟨x, 0, none⟩)] 34)).alloc (.cells #[.int .i64 a] 3)).alloc (.cells #[.int .i64 0] 3)).heap.size = W.heap.size + 3 := by simp
  generalize hWd : (((W.alloc (.cells #[.pointer (some ⟨x, 0, none⟩)] 34)).alloc (.cells #[.int .i64 a] 3)).alloc (.cells #[.int .i64 0] 3)) = W1 at *
  have HW : Hid _ := hWd
  clear hWd
  have hE2 : Ext none1 W1 (W1.alloc (.cells #[.bool false] 4)) := (Ext.refl _ _).alloc _
  have hbd : (W1.alloc (.cells #[.bool false] 4)).heap[W1.heap.size]? = some (.cells #[.bool false] 4 (0, 0)) := heap_alloc_new _ _
  have hE12 := hE1.trans hE2
  have hbx := hE2.keep hb3.2.2 (fun x => x)
  have hcl := loadCl_any (W1.alloc (.cells #[.bool false] 4)) W.heap.size (W.heap.size + 1) (W.heap.size + 2) x m bf bz S a v (ht.keep0 hE12) hI (hg.ext hE12 (fun x => x)) a0 a1 (by omega) (by omega) (hE2.keep hb3.1 (fun x => x)) (hE2.keep hb3.2.1 (fun x => x)) hbx
  have hdn := done_any W1 37 #[.pointer (some ⟨W.heap.size, 0, none⟩), .pointer (some ⟨W.heap.size + 1, 0, none⟩), .pointer (some ⟨W.heap.size + 2, 0, none⟩)] v
    (fun w2 => S.byte1 a = true ∧ ∃ w3, Ext none1 (W1.alloc (.cells #[.bool false] 4)) w3 ∧ w2 = w3.setCell ⟨W.heap.size + 2, 0, none⟩ (.int .i64 (S.byte a.toNat))) (fun w2 => S.byte1 a = false ∧ Ext none1 (W1.alloc (.cells #[.bool false] 4)) w2)
    (enters_of Tryd.func37 (by kernel_rfl) rfl)
    (fun w2 h2 => by obtain ⟨_, w3, h3, rfl⟩ := h2; rw [heap_set_ne (by omega)]; exact h3.keep hbd (fun e => e)) (fun w2 h2 => h2.2.keep hbd (fun e => e))
    (hcl.mono (fun e w2 h2 => by
      rcases h2 with ⟨q1, q2, q3⟩ | ⟨q1, q2, q3⟩
      · exact .inl ⟨q2, q1, q3⟩
      · exact .inr ⟨q2, q1, q3⟩))
  have H1 : Hid _ := hdn
  clear hdn hcl
  have hm := hmf
  have hle : W.heap.size + 2 < W1.heap.size := by omega
  have Hyes : Hid (S.byte1 a = true → S.load a = (S.byte a.toNat, 0)) := fun h0 => by unfold Ti.St.load; rw [if_pos h0]
  have Hno : Hid (S.byte1 a = false → S.load a = (0, 4)) := fun h0 => by unfold Ti.St.load; rw [h0]; rfl
  clear hs1
  go_enter Tryd.func22, Tryd.ntmps22
  go_wp2_with fail
  rw [HW.out]
  refine Calls.mono H1.out ?_
  clear H1
  rintro e w' (⟨rfl, w2, ⟨q1, w3, q2, rfl⟩, rfl⟩ | ⟨rfl, w2, ⟨q1, q2⟩, rfl⟩)
  · have hE3 := hE12.trans q2
    have hEa : Ext none1 W (w3.setCell ⟨W.heap.size + 2, 0, none⟩ (.int .i64 (S.byte a.toNat))) := hE3.setCell ⟨W.heap.size + 2, 0, none⟩ (.inr (by show W.heap.size ≤ W.heap.size + 2; omega)) _
    have hfin : PPst W _ x fp S := PPst.of ht hg f1 f2 f3 f4 f5 (X := none1) (fun k hk => hk.elim) hEa (ht.pr.keep0 hEa) W1.heap.size (by omega) (ext_set2 _ W1.heap.size (.bool true) (.bool true))
    have g1 := heap_set (q2.keep hbx (fun x => x)) 0 (.int .i64 (S.byte a.toNat))
    have g2 := (heap_set_ne (show W.heap.size + 2 ≠ W1.heap.size by omega) 0 (.bool true)).trans g1
    have g3 := (heap_set_ne (show W.heap.size + 2 ≠ W1.heap.size by omega) 0 (.bool true)).trans g2
    have y := cell_of g3 0
    simp at y
    have h0 := Hyes.out q1
    have H9 : Hid _ := hfin
    have Hl : Hid _ := h0
    clear hfin q2 hE3 hEa g1 g2 g3 h0
    go_wp2
    go_ret2
    rw [Hl.out]
    exact ⟨rfl, H9.out⟩
  · have hE3 := hE12.trans q2
    have hfin : PPst W _ x fp S := PPst.of ht hg f1 f2 f3 f4 f5 (X := none1) (fun k hk => hk.elim) hE3 (ht.pr.keep0 hE3) W1.heap.size (by omega) (ext_set1 w2 W1.heap.size (.bool false))
    have H9 : Hid _ := hfin
    have H8 : Hid _ := Hno.out q1
    clear hfin
    go_wp2
    go_ret2
    rw [H8.out]
    exact ⟨rfl, H9.out⟩

set_option maxRecDepth 100000 in
set_option maxHeartbeats 1000000 in
theorem store_face (W : World) (x : Nat) (fp : Nat → Prop) (S : Ti.St) (a u : Int) (h : PrIs W x fp S) (hI : Ti.Inv S) (a0 : -9223372036854775808 ≤ a) (a1 : a ≤ 9223372036854775807) :
    Calls Tryd.prog 23 #[.pointer (some ⟨x, 0, none⟩), .int .i64 a, .int .i64 u] W fun e W' => e = .returned (.int .i64 (S.store a u).1) ∧ PPst W W' x fp (S.store a u).2 := by
  have h' := h
  obtain ⟨m, bf, bz, v, ht, hg, f1, f2, f3, f4, f5⟩ := h
  obtain ⟨l1, l2, l3, l4⟩ := ht.lt
  have hb3 := heap3 W (.cells #[.pointer (some ⟨x, 0, none⟩)] 34) (.cells #[.int .i64 a] 3) (.cells #[.int .i64 u] 3)
  have hE1 : Ext none1 W (((W.alloc (.cells #[.pointer (some ⟨x, 0, none⟩)] 34)).alloc (.cells #[.int .i64 a] 3)).alloc (.cells #[.int .i64 u] 3)) := (((Ext.refl _ _).alloc _).alloc _).alloc _
  have hs1 : (((W.alloc (.cells #[.pointer (some ⟨x, 0, none⟩)] 34)).alloc (.cells #[.int .i64 a] 3)).alloc (.cells #[.int .i64 u] 3)).heap.size = W.heap.size + 3 := by simp
  by_cases hu : 0 ≤ u ∧ u ≤ 255
  · have du : (decide (0 ≤ u) && decide (u ≤ 255)) = true := by simp [hu.1, hu.2]
    generalize hWd : (((W.alloc (.cells #[.pointer (some ⟨x, 0, none⟩)] 34)).alloc (.cells #[.int .i64 a] 3)).alloc (.cells #[.int .i64 u] 3)) = W1 at *
    have HW : Hid _ := hWd
    clear hWd
    have hE2 : Ext none1 W1 (W1.alloc (.cells #[.bool false] 4)) := (Ext.refl _ _).alloc _
    have hbd : (W1.alloc (.cells #[.bool false] 4)).heap[W1.heap.size]? = some (.cells #[.bool false] 4 (0, 0)) := heap_alloc_new _ _
    have hE12 := hE1.trans hE2
    have hcl := storeCl_any (W1.alloc (.cells #[.bool false] 4)) W.heap.size (W.heap.size + 1) (W.heap.size + 2) x m bf bz S a u v (ht.keep0 hE12) hI (hg.ext hE12 (fun x => x)) a0 a1 hu.1 hu.2 (hE2.keep hb3.1 (fun x => x)) (hE2.keep hb3.2.1 (fun x => x)) (hE2.keep hb3.2.2 (fun x => x))
    have hdn := done_any W1 39 #[.pointer (some ⟨W.heap.size, 0, none⟩), .pointer (some ⟨W.heap.size + 1, 0, none⟩), .pointer (some ⟨W.heap.size + 2, 0, none⟩)] v
      (fun w2 => S.byte1 a = true ∧ PrAt w2 m bf bz { S with bytes := S.bytes.set a.toNat u } ∧ Ext (one bz) (W1.alloc (.cells #[.bool false] 4)) w2) (fun w2 => S.byte1 a = false ∧ Ext none1 (W1.alloc (.cells #[.bool false] 4)) w2)
      (enters_of Tryd.func39 (by kernel_rfl) rfl)
      (fun w2 h2 => h2.2.2.keep hbd (fun e => by have : W1.heap.size = bz := e; omega)) (fun w2 h2 => h2.2.keep hbd (fun e => e))
      (hcl.mono (fun e w2 h2 => by
        rcases h2 with ⟨q1, q2, q3, q4⟩ | ⟨q1, q2, q3⟩
        · exact .inl ⟨q2, q1, q3, q4⟩
        · exact .inr ⟨q2, q1, q3⟩))
    have H1 : Hid _ := hdn
    clear hdn hcl
    have hm := hmf
    have hle : W.heap.size + 2 < W1.heap.size := by omega
    have y0 := cell_of hb3.2.2 0
    simp at y0
    have Hyes : Hid (S.byte1 a = true → S.store a u = (0, { S with bytes := S.bytes.set a.toNat u })) := fun h0 => by unfold Ti.St.store; rw [if_neg (by omega), if_pos h0]
    have Hno : Hid (S.byte1 a = false → S.store a u = (4, S)) := fun h0 => by unfold Ti.St.store; rw [if_neg (by omega), h0]; rfl
    clear hs1
    go_enter Tryd.func23, Tryd.ntmps23
    go_wp2_with fail
    rw [HW.out]
    refine (within_any _ _ _ _).mono ?_
    rintro e w' ⟨rfl, rfl⟩
    rw [du]
    go_wp2_with fail
    refine Calls.mono H1.out ?_
    clear H1
    rintro e w' (⟨rfl, w2, ⟨q1, q2, q3⟩, rfl⟩ | ⟨rfl, w2, ⟨q1, q2⟩, rfl⟩)
    · have hfin : PPst W _ x fp _ := PPst.of ht hg f1 f2 f3 f4 f5 (X := one bz) (fun k hk => .inr hk) ((hE12.mono (fun _ _ x => x.elim)).trans q3) q2 W1.heap.size (by omega) (ext_set2 w2 W1.heap.size (.bool true) (.bool true))
      have Hl : Hid _ := Hyes.out q1
      have H9 : Hid _ := hfin
      clear hfin q2 q3
      go_wp2
      go_ret
      rw [Hl.out]
      exact ⟨rfl, H9.out⟩
    · have hE3 := hE12.trans q2
      have hfin : PPst W _ x fp S := PPst.of ht hg f1 f2 f3 f4 f5 (X := none1) (fun k hk => hk.elim) hE3 (ht.pr.keep0 hE3) W1.heap.size (by omega) (ext_set1 w2 W1.heap.size (.bool false))
      have H9 : Hid _ := hfin
      have H8 : Hid _ := Hno.out q1
      clear hfin
      go_wp2
      go_ret
      rw [H8.out]
      exact ⟨rfl, H9.out⟩
  · have du : (decide (0 ≤ u) && decide (u ≤ 255)) = false := band_false hu
    have Hm : Hid (S.store a u = (1, S)) := by show _ = _; unfold Ti.St.store; rw [if_pos (by omega)]
    have H9 : Hid (PPst W (((W.alloc (.cells #[.pointer (some ⟨x, 0, none⟩)] 34)).alloc (.cells #[.int .i64 a] 3)).alloc (.cells #[.int .i64 u] 3)) x fp S) := ⟨h'.keep hE1 (fun _ _ x => x) (fun x => x), hE1.mono (fun _ _ x => x.elim)⟩
    clear hs1 hE1 hb3
    go_enter Tryd.func23, Tryd.ntmps23
    go_wp2_with fail
    refine (within_any _ _ _ _).mono ?_
    rintro e w' ⟨rfl, rfl⟩
    rw [du]
    go_wp2
    go_ret
    rw [Hm.out]
    exact ⟨rfl, H9.out⟩
end Go.Proofs.YtbagfepdmmfegaaDoor

namespace Go.Proofs.YtbagfepdmmfegaaDoor
open Go.RowKit Go.Shelf

theorem mkFrames (n : Nat) (hn : n ≤ 16) : ∃ c : Array Value, c.size = n * 11 ∧ (∀ k, k < n * 11 → c[k]? = some (.int .i64 0)) ∧
    ∀ w : World, (Instr.makeSlice 92 (.int .i64 (n : Int)) (.int .i64 (n : Int))).run Tryd.prog w = .ok (.slice (some ⟨w.heap.size, 0, none⟩) n n) (w.alloc (.cells c 100)) := by
  obtain ⟨i0, hi, h0, h1, h2⟩ := info_parts infoFrame
  refine ⟨madeCells #[.int .i64 0, .int .i64 0, .int .i64 0, .int .i64 0, .int .i64 0, .int .i64 0, .int .i64 0, .int .i64 0, .int .i64 0, .int .i64 0, .int .i64 0] (n * 11), by simp [size_madeCells], fun k hk => ?_, fun w => ?_⟩
  · have : k % 11 < 11 := Nat.mod_lt _ (by omega)
    simp [madeCells, hk]
    generalize k % 11 = j at *
    match j, this with
    | 0, _ => rfl
    | 1, _ => rfl
    | 2, _ => rfl
    | 3, _ => rfl
    | 4, _ => rfl
    | 5, _ => rfl
    | 6, _ => rfl
    | 7, _ => rfl
    | 8, _ => rfl
    | 9, _ => rfl
    | 10, _ => rfl
  · have := run_make (P := Tryd.prog) w 92 100 i0 _ Tryd.underlying92 hi h0 .i64 .i64 n n (by omega) (Int.le_refl _) (by rw [h2]; omega) (by omega)
    simpa [h1, Value.cells] using this
theorem mkBytes (n : Nat) (hn : n ≤ 1024) : ∃ c : Array Value, c.size = n ∧ (∀ k, k < n → c[k]? = some (.int .u8 0)) ∧
    ∀ w : World, (Instr.makeSlice 93 (.int .i64 (n : Int)) (.int .i64 (n : Int))).run Tryd.prog w = .ok (.slice (some ⟨w.heap.size, 0, none⟩) n n) (w.alloc (.cells c 5)) := by
  obtain ⟨i0, hi, h0, h1, h2⟩ := info_parts infoByte
  refine ⟨madeCells #[.int .u8 0] n, by simp [size_madeCells], fun k hk => ?_, fun w => ?_⟩
  · have b1 : k % 1 = 0 := by omega
    simp [madeCells, hk, b1]
  · have := run_make (P := Tryd.prog) w 93 5 i0 _ Tryd.underlying93 hi h0 .i64 .i64 n n (by omega) (Int.le_refl _) (by rw [h2]; omega) (by omega)
    simpa [h1, Value.cells] using this

def MemNew (w w' : World) (h s : Int) (n : Nat) (e : Ending) : Prop :=
  ∃ m bf bz, e = .returned (.pointer (some ⟨m, 0, none⟩)) ∧ PrAt w' m bf bz (Ti.newSt h n s) ∧ (m ≠ bf ∧ bf ≠ bz ∧ m ≠ bz) ∧ (w.heap.size ≤ m ∧ w.heap.size ≤ bf ∧ w.heap.size ≤ bz) ∧ Ext none1 w w'

theorem memNew_mk {w W : World} (h s : Int) (n m bf bz : Nat) (c1 c2 : Array Value)
    (hd : W.heap[m]? = some (.cells #[.int .i64 h, .int .i64 s, .slice (some ⟨bf, 0, none⟩) n n, .slice (some ⟨bz, 0, none⟩) (n * 64) (n * 64)] 95 (0, 0)))
    (hs : W.heap[bf]? = some (.cells c1 100 (0, 0))) (hz : W.heap[bz]? = some (.cells c2 5 (0, 0)))
    (z1 : c1.size = n * 11) (z2 : ∀ k, k < n * 11 → c1[k]? = some (.int .i64 0))
    (y1 : c2.size = n * 64) (y2 : ∀ k, k < n * 64 → c2[k]? = some (.int .u8 0)) (hne : m ≠ bf ∧ bf ≠ bz ∧ m ≠ bz) (hb : w.heap.size ≤ m ∧ w.heap.size ≤ bf ∧ w.heap.size ≤ bz) (hE : Ext none1 w W) :
    MemNew w W h s n (.returned (.pointer (some ⟨m, 0, none⟩))) := by
  have hl : (Ti.newSt h n s).sups.length = n := by simp [Ti.newSt]
  have hbl : (Ti.newSt h n s).blocks = [] := rfl
  have hsz : ∀ a, sizeAt (Ti.newSt h n s).blocks a = 0 := fun a => sizeAt_none _ _ (fun b hb => by rw [hbl] at hb; cases hb)
  have his : ∀ k, k < n → ((Ti.newSt h n s).sup k).is = false := fun k hk => by simp [Ti.St.sup, Ti.newSt, hk, Ti.sup0]
  refine ⟨m, bf, bz, rfl, ⟨?_, ?_, ?_⟩, hne, hb, hE⟩
  · have e : (Ti.newSt h n s).bytes.length = n * 64 := by simp [Ti.newSt]; omega
    rw [hl, e]; exact hd
  · refine ⟨c1, hs, by rw [hl]; exact z1, fun k hk => ?_⟩
    rw [hl] at hk
    have hi := his k hk
    have e1 : pk (Ti.newSt h n s) k = 0 := by unfold pk; rw [hi, hbl]; rfl
    have e2 : ph (Ti.newSt h n s) k = 0 := by unfold ph; rw [hi]; rfl
    have e3 : pc (Ti.newSt h n s) k = 0 := by unfold pc; rw [hi]; rfl
    have e4 : ∀ j, slotOf (Ti.newSt h n s) k j = 0 := fun j => by
      unfold slotOf
      rw [hsz, hsz]
      split
      · rfl
      · split <;> rfl
    rw [e1, e2, e3]
    refine ⟨z2 _ (by omega), z2 _ (by omega), z2 _ (by omega), fun j hj => ?_⟩
    rw [e4]; exact z2 _ (by omega)
  · have e : (Ti.newSt h n s).bytes.length = n * 64 := by simp [Ti.newSt]; omega
    refine ⟨c2, hz, by rw [e]; exact y1, fun k hk => ?_⟩
    rw [e] at hk
    have hk' : k < 64 * n := by omega
    rw [y2 k hk]; simp [Ti.newSt, hk']

set_option maxRecDepth 100000 in
set_option maxHeartbeats 2000000 in
theorem memNew_any (w : World) (h s : Int) (n : Nat) (h1 : 1 ≤ h) (h4 : h ≤ 4) (n1 : 1 ≤ n) (n16 : n ≤ 16) (s1 : 1 ≤ s) (s4 : s ≤ 4) :
    Calls Tryd.prog 47 #[.agg #[.int .i64 h, .int .i64 n, .int .i64 s]] w fun e w' => MemNew w w' h s n e := by
  obtain ⟨c1, z1, z2, m1⟩ := mkFrames n n16
  obtain ⟨c2, y1, y2, m2⟩ := mkBytes (n * 64) (by omega)
  have ec : ((n * 64 : Nat) : Int) = (n : Int) * 64 := by omega
  rw [ec] at m2
  clear ec
  go_enter Tryd.func47, Tryd.ntmps47
  go_wp2
  go_region
  all_goals go_wp2
  · go_ret
    exact memNew_mk h s n (w.heap.size + 3) (w.heap.size + 1) (w.heap.size + 2) c1 c2 (heap4 _ _ _ _ _).2.2 (heap4 _ _ _ _ _).1 (heap4 _ _ _ _ _).2.1 z1 z2 y1 y2 (by omega) (by omega) (((((Ext.refl _ _).alloc _).alloc _).alloc _).alloc _).drew
  · go_ret
    exact memNew_mk h s n (w.heap.size + 3) (w.heap.size + 2) (w.heap.size + 1) c1 c2 (heap4 _ _ _ _ _).2.2 (heap4 _ _ _ _ _).2.1 (heap4 _ _ _ _ _).1 z1 z2 y1 y2 (by omega) (by omega) (((((Ext.refl _ _).alloc _).alloc _).alloc _).alloc _).drew

set_option maxRecDepth 100000 in
set_option maxHeartbeats 2000000 in
theorem new_face (W : World) (h n s : Int) (v : Value) (hg : ErrAt W v) (hok : Ti.okConfig h n s = true) :
    Calls Tryd.prog 28 #[.agg #[.int .i64 h, .int .i64 n, .int .i64 s]] W fun e W' => ∃ x fp, e = .returned (.tuple #[.pointer (some ⟨x, 0, none⟩), .int .i64 0]) ∧ PrIs W' x fp (Ti.newSt h n s) ∧ Ext none1 W W' ∧ ∀ k, fp k → W.heap.size ≤ k ∧ k < W'.heap.size := by
  have hk : 1 ≤ h ∧ h ≤ 4 ∧ 1 ≤ n ∧ n ≤ 16 ∧ 1 ≤ s ∧ s ≤ 4 := by
    simp [Ti.okConfig] at hok; omega
  clear hok
  obtain ⟨nn, rfl⟩ := Int.eq_ofNat_of_zero_le (show 0 ≤ n by omega)
  have d1 : (decide (1 ≤ h) && decide (h ≤ 4)) = true := by simp [hk.1, hk.2.1]
  have d2 : (decide (1 ≤ (nn : Int)) && decide ((nn : Int) ≤ 16)) = true := by rw [decide_eq_true hk.2.2.1, decide_eq_true hk.2.2.2.1]; rfl
  have d3 : (decide (1 ≤ s) && decide (s ≤ 4)) = true := by simp [hk.2.2.2.2.1, hk.2.2.2.2.2]
  have H1 : Hid (∀ w1 : World, _) := fun w1 => memNew_any w1 h s nn hk.1 hk.2.1 (by omega) (by omega) hk.2.2.2.2.1 hk.2.2.2.2.2
  clear hk
  go_enter Tryd.func28, Tryd.ntmps28
  go_wp2_with fail
  refine (within_any _ _ _ _).mono ?_
  rintro e w' ⟨rfl, rfl⟩
  rw [d1]
  go_wp2_with fail
  refine (within_any _ _ _ _).mono ?_
  rintro e w' ⟨rfl, rfl⟩
  rw [d2]
  go_wp2_with fail
  refine (within_any _ _ _ _).mono ?_
  rintro e w' ⟨rfl, rfl⟩
  rw [d3]
  go_wp2_with fail
  refine Calls.mono (H1.out _) ?_
  rintro e w2 ⟨m, bf, bz, rfl, hP, hne, hb, hE⟩
  have hE1 : Ext none1 W w2 := ((Ext.refl _ _).alloc _).trans hE
  have hE2 : Ext none1 w2 (w2.alloc (.cells #[.pointer (some ⟨m, 0, none⟩)] 88)) := (Ext.refl _ _).alloc _
  have hE12 := hE1.trans hE2
  have hg2 := hg.ext hE12 (fun x => x)
  have hP2 := hP.keep0 hE2
  have hx : (w2.alloc (.cells #[.pointer (some ⟨m, 0, none⟩)] 88)).heap[w2.heap.size]? = some (.cells #[.pointer (some ⟨m, 0, none⟩)] 88 (0, 0)) := heap_alloc_new _ _
  have hlm := lt_of_heap hP.hd
  obtain ⟨_, qf, _⟩ := hP.fr
  have hlf := lt_of_heap qf
  obtain ⟨_, qz, _⟩ := hP.bytes
  have hlz := lt_of_heap qz
  have hs2 : (w2.alloc (.cells #[.pointer (some ⟨m, 0, none⟩)] 88)).heap.size = w2.heap.size + 1 := by simp
  have hg0 := hg.2
  have hwsz := hE1.size
  simp only [World.size_alloc] at hb
  have Hfin : Hid (∃ x fp, Ending.returned (.tuple #[.pointer (some ⟨w2.heap.size, 0, none⟩), .int .i64 0]) = .returned (.tuple #[.pointer (some ⟨x, 0, none⟩), .int .i64 0]) ∧ PrIs (w2.alloc (.cells #[.pointer (some ⟨m, 0, none⟩)] 88)) x fp (Ti.newSt h nn s) ∧ Ext none1 W (w2.alloc (.cells #[.pointer (some ⟨m, 0, none⟩)] 88)) ∧ ∀ k, fp k → W.heap.size ≤ k ∧ k < (w2.alloc (.cells #[.pointer (some ⟨m, 0, none⟩)] 88)).heap.size) := by
    refine ⟨w2.heap.size, fun k => k = w2.heap.size ∨ k = m ∨ k = bf ∨ k = bz, rfl, ⟨m, bf, bz, v, ⟨hx, hP2, hne, by omega⟩, hg2, .inl rfl, .inr (.inl rfl), .inr (.inr (.inl rfl)), .inr (.inr (.inr rfl)), ?_⟩, hE12, ?_⟩
    · rintro (e | e | e | e) <;> omega
    · rintro k (e | e | e | e) <;> (rw [hs2]; omega)
  clear H1 hP hE hE1 hE2 hE12 hg2 hP2 hx qf qz hs2
  go_wp2
  go_ret2
  exact Hfin.out

theorem newNo_face (W : World) (h n s : Int) (hno : Ti.okConfig h n s = false) :
    Calls Tryd.prog 28 #[.agg #[.int .i64 h, .int .i64 n, .int .i64 s]] W fun e W' => e = .returned (.tuple #[.pointer none, .int .i64 1]) ∧ Ext none1 W W' := by
  have hh : ¬ (1 ≤ h ∧ h ≤ 4) ∨ ¬ (1 ≤ n ∧ n ≤ 16) ∨ ¬ (1 ≤ s ∧ s ≤ 4) := by
    simp [Ti.okConfig] at hno; omega
  clear hno
  by_cases a1 : 1 ≤ h ∧ h ≤ 4
  · have d1 : (decide (1 ≤ h) && decide (h ≤ 4)) = true := by simp [a1.1, a1.2]
    by_cases a2 : 1 ≤ n ∧ n ≤ 16
    · have d2 : (decide (1 ≤ n) && decide (n ≤ 16)) = true := by simp [a2.1, a2.2]
      have d3 : (decide (1 ≤ s) && decide (s ≤ 4)) = false := band_false (by rcases hh with h | h | h; exact absurd a1 h; exact absurd a2 h; exact h)
      clear hh
      go_enter Tryd.func28, Tryd.ntmps28
      go_wp2_with fail
      refine (within_any _ _ _ _).mono ?_
      rintro e w' ⟨rfl, rfl⟩
      rw [d1]
      go_wp2_with fail
      refine (within_any _ _ _ _).mono ?_
      rintro e w' ⟨rfl, rfl⟩
      rw [d2]
      go_wp2_with fail
      refine (within_any _ _ _ _).mono ?_
      rintro e w' ⟨rfl, rfl⟩
      rw [d3]
      go_wp2
      go_ret2
      exact ⟨rfl, (Ext.refl _ _).alloc _⟩
    · have d2 : (decide (1 ≤ n) && decide (n ≤ 16)) = false := band_false a2
      clear hh
      go_enter Tryd.func28, Tryd.ntmps28
      go_wp2_with fail
      refine (within_any _ _ _ _).mono ?_
      rintro e w' ⟨rfl, rfl⟩
      rw [d1]
      go_wp2_with fail
      refine (within_any _ _ _ _).mono ?_
      rintro e w' ⟨rfl, rfl⟩
      rw [d2]
      go_wp2
      go_ret2
      exact ⟨rfl, (Ext.refl _ _).alloc _⟩
  · have d1 : (decide (1 ≤ h) && decide (h ≤ 4)) = false := band_false a1
    clear hh
    go_enter Tryd.func28, Tryd.ntmps28
    go_wp2_with fail
    refine (within_any _ _ _ _).mono ?_
    rintro e w' ⟨rfl, rfl⟩
    rw [d1]
    go_wp2
    go_ret2
    exact ⟨rfl, (Ext.refl _ _).alloc _⟩
end Go.Proofs.YtbagfepdmmfegaaDoor
