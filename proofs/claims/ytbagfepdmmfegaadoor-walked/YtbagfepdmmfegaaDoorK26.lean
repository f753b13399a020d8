import Derived.Test.YtbagfepdmmfegaaDoorK25
import Derived.Deep.AppendLies
set_option linter.unusedVariables false
set_option linter.unusedSimpArgs false
/- A BLOCK IS TAKEN. -/
namespace Go.Proofs.YtbagfepdmmfegaaDoor
open Go.RowKit

theorem mkBy (p : Nat) (hp : p < 256) : ∀ w : World, (Instr.makeSlice 38 (.int .i64 (1 + (p : Int))) (.int .i64 (1 + (p : Int)))).run Tryd.prog w = .ok (.slice (some ⟨w.heap.size, 0, none⟩) (p + 1) (p + 1)) (w.alloc (.cells (Array.replicate (p + 1) (Value.int .i64 0)) 3)) := by
  obtain ⟨c, h1, h2, h3⟩ := mkInts (p + 1) (by omega)
  have hc : c = (Array.replicate (p + 1) (Value.int .i64 0)) := by
    apply Array.ext_getElem?
    intro k
    by_cases hk : k < p + 1
    · rw [h2 k hk]; simp [hk]
    · rw [Array.getElem?_eq_none (by omega), Array.getElem?_eq_none (by simp; omega)]
  intro w
  have := h3 w
  rw [hc] at this
  rw [show (1 : Int) + (p : Int) = ((p + 1 : Nat) : Int) by omega]
  exact this

/-- a farm behind a call of its tithe that leaves all blocks -/
theorem FarmAt.called {PA : World → Nat → (Nat → Prop) → Ti.St → Prop} {W w' : World} {fl base : Nat} {foot : Nat → Prop} {S S' : Ti.St} {L : List Hb} (h : FarmAt PA W fl base foot S L) {x : Nat} {v : Value} {fp fp' : Nat → Prop}
    (b1 : W.heap[fl]? = some (.cells #[.pointer (some ⟨x, 0, none⟩), .int .i64 S.heaps, .int .i64 (S.sups.length : Nat), .int .i64 S.slack, v] 37 (0, 0))) (b3 : W.ownsRow base 40 3 v L.length (encB L)) (b4 : ∀ k, fp k → foot k) (b5 : ¬ fp fl) (b6 : ∀ y ∈ L, ¬ fp y.g)
    (b7 : ∀ g, v.ownBlock = some g → foot g ∧ ¬ fp g ∧ ∀ y ∈ L, y.g ≠ g)
    (hPA : PA w' x fp' S') (hE1 : Ext fp W w') (hn1 : ∀ k, fp' k → fp k ∨ (W.heap.size ≤ k ∧ k < w'.heap.size))
    (hok : Ti.FarmOk S' (L.map Hb.b)) (hh : S'.heaps = S.heaps) (hs : S'.slack = S.slack) (hl : S'.sups.length = S.sups.length) :
    ∃ foot', FarmAt PA w' fl base foot' S' L ∧ Ext foot W w' ∧ ∀ k, foot' k → foot k ∨ W.heap.size ≤ k := by
  have hlt := lt_of_heap b1
  have z1 := hE1.size
  refine ⟨fun k => foot k ∨ (W.heap.size ≤ k ∧ k < w'.heap.size), ⟨⟨x, v, fp', ?_, hPA, ownsRow_ext b3 hE1 (fun g hg => (b7 g hg).2.1), ?_, ?_, ?_, ?_⟩, ?_, .inl h.ffl, ?_, h.low, ?_, h.dist, hok⟩, hE1.mono (fun k _ hk => b4 k hk), ?_⟩
  · rw [hh, hs, hl]; exact hE1.keep b1 b5
  · intro k hk
    rcases hn1 k hk with q | q
    · exact .inl (b4 k q)
    · exact .inr q
  · intro hk
    rcases hn1 _ hk with q | q
    · exact b5 q
    · omega
  · intro z hz hk
    rcases hn1 _ hk with p | p
    · exact b6 z hz p
    · have := h.flt _ (h.rows z hz).2.1; omega
  · intro g hg
    obtain ⟨q1, q2, q3⟩ := b7 g hg
    refine ⟨.inl q1, fun hk => ?_, q3⟩
    rcases hn1 _ hk with p | p
    · exact q2 p
    · have := h.flt _ q1; omega
  · rintro k (hk | hk)
    · have := h.flt k hk; omega
    · omega
  · rintro (hk | hk)
    · exact h.fpos hk
    · omega
  · intro z hz
    obtain ⟨r1, r2, r3⟩ := h.rows z hz
    exact ⟨r1, .inl r2, hE1.keep r3 (b6 z hz)⟩
  · rintro k (hk | hk)
    · exact .inl hk
    · exact .inr hk.1

set_option maxRecDepth 100000 in
set_option maxHeartbeats 8000000 in
theorem step_malloc {PA : World → Nat → (Nat → Prop) → Ti.St → Prop} {big : Prop} (F : Face PA big) (hbig : big) (W : World) (fl base : Nat) (foot : Nat → Prop) (S : Ti.St) (L : List Hb) (hA : FarmAt PA W fl base foot S L) (hbase : base ≤ W.heap.size) (k a b : Int) (hk1 : k ≠ 1) (hk2 : k ≠ 2) (a0 : -9223372036854775808 ≤ a) (a1 : a ≤ 9223372036854775807) (c0 : -9223372036854775808 ≤ b) (c1 : b ≤ 9223372036854775807) :
    Calls Tryd.prog 15 #[.pointer (some ⟨fl, 0, none⟩), .agg #[.int .i64 k, .int .i64 a, .int .i64 b]] W fun e W' => e = .returned (.bool true) ∧ FarmPost PA W W' fl base foot S := by
  have hfew := hA.few
  obtain ⟨i0, hi, hi0, hi1, hi2⟩ := info_parts infoHb
  have hE0 : Ext none1 W (W.alloc (.cells #[.int .i64 k, .int .i64 a, .int .i64 b] 32)) := (Ext.refl _ _).alloc _
  have hA0 := hA.keep F hE0 (fun _ _ x => x) (fun x => x)
  have hob := heap_alloc_new W (.cells #[.int .i64 k, .int .i64 a, .int .i64 b] 32)
  obtain ⟨W0, HW0⟩ : ∃ W0, Hid (W.alloc (.cells #[.int .i64 k, .int .i64 a, .int .i64 b] 32) = W0) := ⟨_, rfl⟩
  rw [HW0.out] at hE0 hA0 hob
  obtain ⟨x, v, fp, b1, b2, b3, b4, b5, b6, b7⟩ := hA0.box
  have d0 := cell_of b1 0
  have o0 := cell_of hob 0
  have o1 := cell_of hob 1
  have o2 := cell_of hob 2
  simp at d0 o0 o1 o2
  have hltW : fl < W.heap.size := hA.flt _ hA.ffl
  have hk1b : (k == 1) = false := beq_eq_false_iff_ne.2 hk1
  have hk2b : (k == 2) = false := beq_eq_false_iff_ne.2 hk2
  obtain ⟨q, hq⟩ : ∃ q : Nat, pickI a 7 = (q : Int) := ⟨(pickI a 7).toNat, by have := (pickI_bd a 7 (by omega)).1; omega⟩
  have hq7 := pickI_bd a 7 (by omega)
  rw [hq] at hq7
  obtain ⟨p1, hp1⟩ : ∃ p : Nat, pickI b 32 = (p : Int) := ⟨(pickI b 32).toNat, by have := (pickI_bd b 32 (by omega)).1; omega⟩
  have hp32 := pickI_bd b 32 (by omega)
  rw [hp1] at hp32
  obtain ⟨p2, hp2⟩ : ∃ p : Nat, pickI b 256 = (p : Int) := ⟨(pickI b 256).toNat, by have := (pickI_bd b 256 (by omega)).1; omega⟩
  have hp256 := pickI_bd b 256 (by omega)
  rw [hp2] at hp256
  have Hq : Hid (∀ w, Calls Tryd.prog 20 #[.int .i64 a, .int .i64 7] w fun e w' => e = .returned (.int .i64 (q : Int)) ∧ w = w') := fun w => by rw [← hq]; exact pickK_any a 7 w a0 a1 (by omega) (by omega)
  have H1 : Hid (∀ w, Calls Tryd.prog 20 #[.int .i64 b, .int .i64 32] w fun e w' => e = .returned (.int .i64 (p1 : Int)) ∧ w = w') := fun w => by rw [← hp1]; exact pickK_any b 32 w c0 c1 (by omega) (by omega)
  have H2 : Hid (∀ w, Calls Tryd.prog 20 #[.int .i64 b, .int .i64 256] w fun e w' => e = .returned (.int .i64 (p2 : Int)) ∧ w = w') := fun w => by rw [← hp2]; exact pickK_any b 256 w c0 c1 (by omega) (by omega)
  clear hq hp1 hp2
  have hcc : ∀ (w' : World) (bb o : Nat), Ext fp W0 w' → bb < W0.heap.size → ¬ fp bb → w'.cell? ⟨bb, o, none⟩ = W0.cell? ⟨bb, o, none⟩ := fun w' bb o hE hl hn => by
    unfold World.cell?
    simp only [hE.block bb hl hn]
  have hl0 : fl < W0.heap.size := lt_of_heap b1
  have hl1 : W.heap.size < W0.heap.size := lt_of_heap hob
  have k1 : ∀ (w' : World) (o : Nat), Ext fp W0 w' → w'.cell? ⟨fl, o, none⟩ = W0.cell? ⟨fl, o, none⟩ := fun w' o hE => hcc w' fl o hE hl0 b5
  have k2 : ∀ (w' : World) (o : Nat), Ext fp W0 w' → w'.cell? ⟨W.heap.size, o, none⟩ = W0.cell? ⟨W.heap.size, o, none⟩ := fun w' o hE => hcc w' _ o hE hl1 (fun h => by have := hA.flt _ (b4 _ h); omega)
  have w0 : W.cell? ⟨fl, 0, none⟩ = some (.pointer (some ⟨x, 0, none⟩)) := by rw [← d0]; unfold World.cell?; simp only [hE0.block fl hltW (fun x => x)]
  have HA0 : Hid (FarmAt PA W0 fl base foot S L) := hA0
  have HE0 : Hid (Ext none1 W W0) := hE0
  have Hb1 : Hid _ := b1
  have Hd : Hid (∀ (p : Nat) w, Ext none1 W0 w → Calls Tryd.prog 21 #[.pointer (some ⟨x, 0, none⟩), .int .i64 (q : Int), .int .i64 (1 + (p : Int))] w fun e w' => e = .returned (.tuple #[.int .i64 (S.malloc q (1 + (p : Int))).1.1, .int .i64 (S.malloc q (1 + (p : Int))).1.2]) ∧ Ext fp W0 w' ∧ XPost PA w w' x fp (S.malloc q (1 + (p : Int))).2) := fun p w hE => by
    refine (F.malloc w x fp S q (1 + (p : Int)) (F.keep b2 hE (fun _ _ x => x) (fun x => x)) HA0.out.ok.inv (.inr hbig)).mono ?_
    rintro e w' ⟨rfl, hX⟩
    refine ⟨rfl, ?_, hX⟩
    obtain ⟨_, _, e, _⟩ := hX
    exact (hE.mono (fun _ _ x => x.elim)).trans e
  clear hA hA0 hE0 hcc
  obtain ⟨p, hp, hpk⟩ : ∃ p : Nat, p < 256 ∧ p = if k = 0 then p2 else p1 := ⟨_, by split <;> omega, rfl⟩
  have hms := Ti.malloc_spec S HA0.out.ok.inv.toInv0 q (1 + (p : Int)) (by omega) (by omega) (by omega) (by omega)
  have hlean := Ti.lean_malloc S HA0.out.ok.inv.toInv0 (w := (q : Int)) (size := 1 + (p : Int))
  have htot := Ti.tot_malloc S HA0.out.ok.inv.toInv0 (w := (q : Int)) (size := 1 + (p : Int))
  have Hdp := Hd.out p
  clear Hd
  have Hb3 : Hid _ := b3
  have HA0 := HA0
  rcases hms with hm | ⟨ad, T, hm, -⟩
  · rw [hm] at Hdp hlean htot
    have Hdp : Hid _ := Hdp
    have HL : Hid _ := hlean
    have HT : Hid _ := htot
    have Hm : Hid _ := hm
    clear hlean htot hm
    by_cases hk0 : k = 0
    · subst hk0
      obtain rfl : p = p2 := by simpa using hpk
      clear hpk
      go_enter Tryd.func15, Tryd.ntmps15
      go_wp2_with fail
      rw [HW0.out]
      clear w0 HW0
      refine Calls.mono (H1.out _) ?_
      rintro e w' ⟨rfl, rfl⟩
      go_wp2_with fail
      refine Calls.mono (H2.out _) ?_
      rintro e w' ⟨rfl, rfl⟩
      go_wp2_with fail
      go_region_held3 (fun w' => Ext fp W0 w') (first | assumption | exact (Ext.refl _ _).drew)
        (first | (go_at_call 20; refine Calls.mono (Hq.out _) ?_; rintro e w' ⟨rfl, rfl⟩) | (go_at_call 21; refine Calls.mono (Hdp.out _ (Ext.refl _ _).drew) ?_; rintro e w' ⟨rfl, hxx, hpp⟩))
      all_goals
        have HP : Hid (FarmPost PA W w' fl base foot S) := by
          obtain ⟨fp', p1, p2, p3⟩ := hpp
          obtain ⟨foot', q1, q2, q3⟩ := FarmAt.called HA0.out Hb1.out Hb3.out b4 b5 b6 b7 p1 hxx (fun k hk => p3 k hk) HA0.out.ok rfl rfl rfl
          exact ⟨foot', _, _, q1, (HE0.out.mono (fun _ _ x => x.elim)).trans q2, fun k hk => (q3 k hk).imp id (fun h => Nat.le_trans HE0.out.size h), rfl, rfl, rfl, id, fun _ c => .inl (Int.le_refl _)⟩
        clear hpp hxx k1 k2 d0 o0 o1 o2 Hdp Hq H1 H2
        go_wp2
        go_ret
        exact ⟨rfl, HP.out⟩
    · have hk0b : (k == 0) = false := beq_eq_false_iff_ne.2 hk0
      obtain rfl : p = p1 := by simpa [hk0] using hpk
      clear hpk
      go_enter Tryd.func15, Tryd.ntmps15
      go_wp2_with fail
      rw [HW0.out]
      clear w0 HW0
      refine Calls.mono (H1.out _) ?_
      rintro e w' ⟨rfl, rfl⟩
      go_wp2_with fail
      go_region_held3 (fun w' => Ext fp W0 w') (first | assumption | exact (Ext.refl _ _).drew)
        (first | (go_at_call 20; refine Calls.mono (Hq.out _) ?_; rintro e w' ⟨rfl, rfl⟩) | (go_at_call 21; refine Calls.mono (Hdp.out _ (Ext.refl _ _).drew) ?_; rintro e w' ⟨rfl, hxx, hpp⟩))
      all_goals
        have HP : Hid (FarmPost PA W w' fl base foot S) := by
          obtain ⟨fp', p1, p2, p3⟩ := hpp
          obtain ⟨foot', q1, q2, q3⟩ := FarmAt.called HA0.out Hb1.out Hb3.out b4 b5 b6 b7 p1 hxx (fun k hk => p3 k hk) HA0.out.ok rfl rfl rfl
          exact ⟨foot', _, _, q1, (HE0.out.mono (fun _ _ x => x.elim)).trans q2, fun k hk => (q3 k hk).imp id (fun h => Nat.le_trans HE0.out.size h), rfl, rfl, rfl, id, fun _ c => .inl (Int.le_refl _)⟩
        clear hpp hxx k1 k2 d0 o0 o1 o2 Hdp Hq H1 H2
        go_wp2
        go_ret
        exact ⟨rfl, HP.out⟩
  · rw [hm] at Hdp hlean htot
    have Hdp : Hid _ := Hdp
    have HL : Hid _ := hlean
    have HT : Hid _ := htot
    have Hm : Hid _ := hm
    clear hlean htot hm
    by_cases hk0 : k = 0
    · subst hk0
      obtain rfl : p = p2 := by simpa using hpk
      clear hpk
      go_enter Tryd.func15, Tryd.ntmps15
      go_wp2_with fail
      rw [HW0.out]
      clear w0 HW0
      refine Calls.mono (H1.out _) ?_
      rintro e w' ⟨rfl, rfl⟩
      go_wp2_with fail
      refine Calls.mono (H2.out _) ?_
      rintro e w' ⟨rfl, rfl⟩
      go_wp2_with fail
      go_region_held3 (fun w' => Ext fp W0 w') (first | assumption | exact (Ext.refl _ _).drew)
        (first | (go_at_call 20; refine Calls.mono (Hq.out _) ?_; rintro e w' ⟨rfl, rfl⟩) | (go_at_call 21; refine Calls.mono (Hdp.out _ (Ext.refl _ _).drew) ?_; rintro e w' ⟨rfl, hxx, hpp⟩))
      all_goals
        have hfl := hxx.keep Hb1.out b5
        have hc4 : w'.cell? ⟨fl, 4, none⟩ = some v := by rw [cell_of hfl 4]; rfl
        have hf4 := frozen_of hfl 4
        have hlf := lt_of_heap hfl
        have hmk := mkBy p hp
        have hEm : Ext none1 w' ((w'.alloc (.cells (Array.replicate (p + 1) (Value.int .i64 0)) 3)).alloc (.cells #[.int .i64 ad, .int .i64 (1 + (p : Int)), .slice (some ⟨w'.heap.size, 0, none⟩) (p + 1) (p + 1)] 40)).drew := (((Ext.refl _ _).alloc _).alloc _).drew
        have hsm : (((w'.alloc (.cells (Array.replicate (p + 1) (Value.int .i64 0)) 3)).alloc (.cells #[.int .i64 ad, .int .i64 (1 + (p : Int)), .slice (some ⟨w'.heap.size, 0, none⟩) (p + 1) (p + 1)] 40)).drew).heap.size = w'.heap.size + 2 := by simp
        have hr1 : w'.ownsRow base 40 3 v L.length (encB L) := ownsRow_ext Hb3.out hxx (fun g hg => (b7 g hg).2.1)
        have hrow : (((w'.alloc (.cells (Array.replicate (p + 1) (Value.int .i64 0)) 3)).alloc (.cells #[.int .i64 ad, .int .i64 (1 + (p : Int)), .slice (some ⟨w'.heap.size, 0, none⟩) (p + 1) (p + 1)] 40)).drew).ownsRow base 40 3 v L.length (encB L) := ownsRow_ext hr1 hEm (fun _ _ x => x)
        have hbk : (((w'.alloc (.cells (Array.replicate (p + 1) (Value.int .i64 0)) 3)).alloc (.cells #[.int .i64 ad, .int .i64 (1 + (p : Int)), .slice (some ⟨w'.heap.size, 0, none⟩) (p + 1) (p + 1)] 40)).drew).heap[w'.heap.size + 1]? = some (.cells #[.int .i64 ad, .int .i64 (1 + (p : Int)), .slice (some ⟨w'.heap.size, 0, none⟩) (p + 1) (p + 1)] 40 (0, 0)) := heap_alloc2_new _ _ _
        have hby : (((w'.alloc (.cells (Array.replicate (p + 1) (Value.int .i64 0)) 3)).alloc (.cells #[.int .i64 ad, .int .i64 (1 + (p : Int)), .slice (some ⟨w'.heap.size, 0, none⟩) (p + 1) (p + 1)] 40)).drew).heap[w'.heap.size]? = some (.cells (Array.replicate (p + 1) (Value.int .i64 0)) 3 (0, 0)) := (Below.heap_alloc _ _ _ (by simp)).trans (heap_alloc_new _ _)
        have Hrow : Hid _ := hrow
        have Hbk : Hid _ := hbk
        have hbw : base ≤ w'.heap.size := by have := hxx.size; have := HE0.out.size; omega
        have HP : Hid (∀ g cap w1, w1.ownsRow base 40 3 (.slice (some ⟨g, 0, none⟩) (L.length + 1) cap) (L.length + 1) (encB L ++ [.int .i64 ad, .int .i64 (1 + (p : Int)), .slice (some ⟨w'.heap.size, 0, none⟩) (p + 1) (p + 1)]) → World.grownBy (((w'.alloc (.cells (Array.replicate (p + 1) (Value.int .i64 0)) 3)).alloc (.cells #[.int .i64 ad, .int .i64 (1 + (p : Int)), .slice (some ⟨w'.heap.size, 0, none⟩) (p + 1) (p + 1)] 40)).drew) w1 v.ownBlock → (v.ownBlock = some g ∨ g = w'.heap.size + 2) →
            FarmPost PA W (w1.setCell ⟨fl, 4, none⟩ (.slice (some ⟨g, 0, none⟩) (L.length + 1) cap)) fl base foot S ∧ w1.cell? ⟨fl, 4, none⟩ = some v ∧ w1.frozen? ⟨fl, 4, none⟩ = false) := by
          intro g cap w1 hown hgrow hat
          obtain ⟨fp', r1, r2, r3⟩ := hpp
          obtain ⟨f1, f2, f3, f4⟩ := HA0.out.ok.malloc (w := (q : Int)) (size := 1 + (p : Int)) (by omega) (by omega) (by omega) (by omega) Hm.out
          have htn : (1 + (p : Int)).toNat = p + 1 := by omega
          have z1 := hxx.size
          have hE2 : Ext (fun k => v.ownBlock = some k) w' w1 := ⟨hgrow.os.trans hEm.os, hgrow.tape.trans hEm.tape, hgrow.output.trans hEm.output, Nat.le_trans hEm.size hgrow.size, fun k hk hn => (hgrow.block k (Nat.lt_of_lt_of_le hk hEm.size) (fun e => hn e.symm)).trans (hEm.block k hk (fun x => x))⟩
          have hvl : ∀ k, v.ownBlock = some k → k < W0.heap.size := fun k hk => HA0.out.flt _ (b7 k hk).1
          have hvf : ¬ v.ownBlock = some fl := fun e => by have := (own_base Hb3.out e).1; have := HA0.out.low; omega
          have hc := hE2.keep hfl hvf
          have hyl : ∀ y ∈ L, y.g < W0.heap.size := fun y hy => HA0.out.flt _ (HA0.out.rows y hy).2.1
          have hby1 : w1.heap[w'.heap.size]? = some (.cells (Array.replicate (p + 1) (Value.int .i64 0)) 3 (0, 0)) := (hgrow.block _ (lt_of_heap hby) (fun e => by have := hvl _ e.symm; omega)).trans hby
          have henc : encB (L ++ [⟨⟨ad, 1 + (p : Int), List.replicate (1 + (p : Int)).toNat 0⟩, w'.heap.size⟩]) = encB L ++ [.int .i64 ad, .int .i64 (1 + (p : Int)), .slice (some ⟨w'.heap.size, 0, none⟩) (p + 1) (p + 1)] := by
            rw [encB_append]; simp [encB, htn]
          obtain ⟨foot', g1, g2, g3⟩ := FarmAt.renew F HA0.out Hb1.out Hb3.out b4 b5 b6 b7 (by have := HE0.out.size; omega) r1 hxx (fun k hk => r3 k hk) hE2
            (L' := L ++ [⟨⟨ad, 1 + (p : Int), List.replicate (1 + (p : Int)).toNat 0⟩, w'.heap.size⟩]) (v2 := .slice (some ⟨g, 0, none⟩) (L.length + 1) cap)
            (by rw [henc, List.length_append]; exact hown)
            (fun k hk => by
              have hk : g = k := by simpa [Value.ownBlock] using hk
              subst hk
              rcases hat with e | e
              · exact .inl e
              · exact .inr (by omega))
            (fun y hy => by
              rcases List.mem_append.1 hy with h | h
              · exact .inl h
              · obtain rfl := List.mem_singleton.1 h
                refine .inr ⟨Nat.le_refl _, ?_⟩
                rw [hby1, htn]
                simp)
            (fun k hk y hy => by
              have hk : g = k := by simpa [Value.ownBlock] using hk
              subst hk
              rcases List.mem_append.1 hy with h | h
              · rcases hat with e | e
                · exact (b7 _ e).2.2 y h
                · have := hyl y h; omega
              · obtain rfl := List.mem_singleton.1 h
                rcases hat with e | e
                · have := hvl _ e; show w'.heap.size ≠ g; omega
                · show w'.heap.size ≠ g; omega)
            (List.pairwise_append.2 ⟨HA0.out.dist, by simp, fun y hy z hz => by
              obtain rfl := List.mem_singleton.1 hz
              have := hyl y hy
              show y.g ≠ w'.heap.size
              omega⟩)
            (by rw [List.map_append]; exact f1) f2 f3 f4
          refine ⟨⟨foot', _, _, g1, (HE0.out.mono (fun _ _ x => x.elim)).trans g2, fun k hk => (g3 k hk).imp id (fun h => Nat.le_trans HE0.out.size h), f2, f3, f4, fun hl => HL.out hl, fun hl c => HT.out hl c⟩, ?_, frozen_of hc 4⟩
          rw [cell_of hc 4]; rfl
        have hc4a : w'.drew.cell? ⟨fl, 4, none⟩ = some v := hc4
        have hc4b : (w'.alloc (.cells (Array.replicate (p + 1) (Value.int .i64 0)) 3)).drew.cell? ⟨fl, 4, none⟩ = some v := by rw [cell_of ((((Ext.refl none1 w').alloc _).drew).keep hfl (fun x => x)) 4]; rfl
        have hc4c : (((w'.alloc (.cells (Array.replicate (p + 1) (Value.int .i64 0)) 3)).alloc (.cells #[.int .i64 ad, .int .i64 (1 + (p : Int)), .slice (some ⟨w'.heap.size, 0, none⟩) (p + 1) (p + 1)] 40)).drew).cell? ⟨fl, 4, none⟩ = some v := by rw [cell_of (hEm.keep hfl (fun x => x)) 4]; rfl
        clear hpp hEm hrow hbk hby hr1 hfl
        go_wp2_with fail
        refine wp_region_held_drew (S := fun _ => True) (by kernel_rfl) trivial (fun hHeld => ?_)
        refine take_dst 0 143 (v := ?_) rfl (by kernel_rfl) (by kernel_rfl) (by kernel_rfl) rfl (fun _ _ _ h => h) (Or.inl ⟨by rfl, ?_⟩) (by assumption) ?_
        rotate_left
        · intro wx hSw
          first | (go_simp; done) | (go_simp; with_reducible rfl)
        simp only [Act.put, List.setIfInBounds_toArray, List.set_cons_zero, List.set_cons_succ]
        refine take_dst 1 144 (v := ?_) rfl (by kernel_rfl) (by kernel_rfl) (by kernel_rfl) rfl (fun _ _ _ h => h) (Or.inl ⟨by rfl, ?_⟩) (by assumption) ?_
        rotate_left
        · intro wx hSw
          first | (go_simp; done) | (go_simp; with_reducible rfl)
        simp only [Act.put, List.setIfInBounds_toArray, List.set_cons_zero, List.set_cons_succ]
        refine take_dst 2 145 (v := ?_) rfl (by kernel_rfl) (by kernel_rfl) (by kernel_rfl) rfl (fun _ _ _ h => h) (Or.inl ⟨by rfl, ?_⟩) (by assumption) ?_
        rotate_left
        · intro wx hSw
          first | (go_simp; done) | (go_simp; with_reducible rfl)
        simp only [Act.put, List.setIfInBounds_toArray, List.set_cons_zero, List.set_cons_succ]
        refine take_dst 3 146 (v := ?_) rfl (by kernel_rfl) (by kernel_rfl) (by kernel_rfl) rfl (fun _ _ _ h => h) (Or.inl ⟨by rfl, ?_⟩) (by assumption) ?_
        rotate_left
        · intro wx hSw
          first | (go_simp; done) | (go_simp; with_reducible rfl)
        simp only [Act.put, List.setIfInBounds_toArray, List.set_cons_zero, List.set_cons_succ]
        refine take_dst 5 148 (v := ?_) rfl (by kernel_rfl) (by kernel_rfl) (by kernel_rfl) rfl (fun _ _ _ h => h) (Or.inl ⟨by rfl, ?_⟩) (by assumption) ?_
        rotate_left
        · intro wx hSw
          first | (go_simp; done) | (go_simp; with_reducible rfl)
        simp only [Act.put, List.setIfInBounds_toArray, List.set_cons_zero, List.set_cons_succ]
        refine take_dst 6 149 (v := ?_) rfl (by kernel_rfl) (by kernel_rfl) (by kernel_rfl) rfl (fun _ _ _ h => h) (Or.inl ⟨by rfl, ?_⟩) (by assumption) ?_
        rotate_left
        · intro wx hSw
          first | (go_simp; done) | (go_simp; with_reducible rfl)
        simp only [Act.put, List.setIfInBounds_toArray, List.set_cons_zero, List.set_cons_succ]
        refine take_dst 7 150 (v := ?_) rfl (by kernel_rfl) (by kernel_rfl) (by kernel_rfl) rfl (fun _ _ _ h => h) (Or.inl ⟨by rfl, ?_⟩) (by assumption) ?_
        rotate_left
        · intro wx hSw
          first | (go_simp; done) | (go_simp; with_reducible rfl)
        simp only [Act.put, List.setIfInBounds_toArray, List.set_cons_zero, List.set_cons_succ]
        refine wpAnyH_ready (rs := [4, 8]) (by kernel_rfl) (by simp) ?_
        refine AllReadyH.cons (o := { dst := some 147, op := Op.load 35 (Operand.tmp 146), type := 35, pos := "keeps.go:110", after := #[{ on := 3, ground := Ground.data }], guard := none }) rfl (fun K hK => ?_) ?_
        · go_simp
          refine hK.out _ _ trivial (fun hHeld => ?_)
          clear hK K
          try simp only [Act.put, List.setIfInBounds_toArray, List.set_cons_zero, List.set_cons_succ]
          refine wpAnyH_ready (rs := [8]) (by kernel_rfl) (by simp) ?_
          refine AllReadyH.cons (o := { dst := some 151, op := Op.makeSlice 38 (Operand.tmp 150) (Operand.tmp 150), type := 38, pos := "keeps.go:110", after := #[{ on := 7, ground := Ground.data }, { on := 7, ground := Ground.data }], guard := none }) rfl (fun K hK => ?_) ?_
          · go_simp
            refine hK.out _ _ trivial (fun hHeld => ?_)
            clear hK K
            try simp only [Act.put, List.setIfInBounds_toArray, List.set_cons_zero, List.set_cons_succ]
            refine take_dst 9 152 (v := ?_) rfl (by kernel_rfl) (by kernel_rfl) (by kernel_rfl) rfl (fun _ _ _ h => h) (Or.inl ⟨by rfl, ?_⟩) (by assumption) ?_
            rotate_left
            · intro wx hSw
              first | (go_simp; done) | (go_simp; with_reducible rfl)
            simp only [Act.put, List.setIfInBounds_toArray, List.set_cons_zero, List.set_cons_succ]
            refine wpAnyH_ready (rs := [10]) (by kernel_rfl) (by simp) ?_
            refine AllReadyH.cons (o := { dst := some 153, op := Op.buildSlice 35 1 #[(0, Operand.tmp 152)], type := 35, pos := "keeps.go:110", after := #[{ on := 9, ground := Ground.data }], guard := none }) rfl (fun K hK => ?_) ?_
            · go_simp
              refine hK.out _ _ trivial (fun hHeld => ?_)
              clear hK K
              try simp only [Act.put, List.setIfInBounds_toArray, List.set_cons_zero, List.set_cons_succ]
              refine wpAnyH_ready (rs := [11]) (by kernel_rfl) (by simp) ?_
              refine AllReadyH.cons (o := { dst := some 154, op := Op.call { callee := Callee.builtin Builtin.append, args := #[Operand.tmp 147, Operand.tmp 153], argTypes := #[35, 35] }, type := 35, pos := "keeps.go:110", after := #[{ on := 4, ground := Ground.data }, { on := 10, ground := Ground.data }], guard := none }) rfl (fun K hK => ?_) ?_
              · refine step_append_lies _ rfl (.tmp 147) (.tmp 153) 35 rfl base 40 i0 _ 3 40 Tryd.underlying35 hi hi0 hi1 hi2 rfl (by decide) v L.length (encB L) rfl Hrow.out ⟨w'.heap.size + 1, 0, none⟩ 1 1 [.int .i64 ad, .int .i64 (1 + (p : Int)), .slice (some ⟨w'.heap.size, 0, none⟩) (p + 1) (p + 1)] rfl rfl (World.news_of_block Hbk.out) (by simp [Value.oneCell']) (by omega) (by unfold maxLen; omega) (by omega) (by rw [hsm]; omega) (w'.heap.size + 2) hsm ?_
                intro g cap w1 hown hgrow hat hlt1
                obtain ⟨hpost, hc5, hf5⟩ := HP.out g cap w1 hown hgrow hat
                have HPP : Hid _ := hpost
                clear hpost
                refine hK.out _ _ trivial (fun hHeld => ?_)
                clear hK K
                try simp only [Act.put, List.setIfInBounds_toArray, List.set_cons_zero, List.set_cons_succ]
                refine take_dst 12 155 (v := ?_) rfl (by kernel_rfl) (by kernel_rfl) (by kernel_rfl) rfl (fun _ _ _ h => h) (Or.inl ⟨by rfl, ?_⟩) (by assumption) ?_
                rotate_left
                · intro wx hSw
                  first | (go_simp; done) | (go_simp; with_reducible rfl)
                simp only [Act.put, List.setIfInBounds_toArray, List.set_cons_zero, List.set_cons_succ]
                refine take_dst 13 156 (v := ?_) rfl (by kernel_rfl) (by kernel_rfl) (by kernel_rfl) rfl (fun _ _ _ h => h) (Or.inl ⟨by rfl, ?_⟩) (by assumption) ?_
                rotate_left
                · intro wx hSw
                  first | (go_simp; done) | (go_simp; with_reducible rfl)
                simp only [Act.put, List.setIfInBounds_toArray, List.set_cons_zero, List.set_cons_succ]
                refine wpAnyH_ready (rs := [14]) (by kernel_rfl) (by simp) ?_
                refine AllReadyH.cons (o := { dst := none, op := Op.store 35 (Operand.tmp 156) (Operand.tmp 154), type := 0, pos := "keeps.go:110", after := #[{ on := 13, ground := Ground.data }, { on := 11, ground := Ground.data }, { on := 11, ground := Ground.chain }, { on := 0, ground := Ground.phase }, { on := 1, ground := Ground.phase }, { on := 2, ground := Ground.phase }, { on := 3, ground := Ground.phase }, { on := 4, ground := Ground.phase }, { on := 5, ground := Ground.phase }, { on := 6, ground := Ground.phase }, { on := 7, ground := Ground.phase }, { on := 8, ground := Ground.phase }, { on := 9, ground := Ground.phase }, { on := 10, ground := Ground.phase }, { on := 11, ground := Ground.phase }], guard := none }) rfl (fun K hK => ?_) ?_
                · go_simp
                  refine hK.out _ _ trivial (fun hHeld => ?_)
                  clear hK K
                  try simp only [Act.put, List.setIfInBounds_toArray, List.set_cons_zero, List.set_cons_succ]
                  refine wpAnyH_done (by kernel_rfl) ?_ _
                  clear hHeld hc4a hc4b hc4c hc4 hf4 hmk
                  go_wp2
                  go_ret
                  exact ⟨rfl, HPP.out⟩
                exact AllReadyH.nil
              exact AllReadyH.nil
            exact AllReadyH.nil
          exact AllReadyH.nil
        refine AllReadyH.cons (o := { dst := some 151, op := Op.makeSlice 38 (Operand.tmp 150) (Operand.tmp 150), type := 38, pos := "keeps.go:110", after := #[{ on := 7, ground := Ground.data }, { on := 7, ground := Ground.data }], guard := none }) rfl (fun K hK => ?_) ?_
        · go_simp
          refine hK.out _ _ trivial (fun hHeld => ?_)
          clear hK K
          try simp only [Act.put, List.setIfInBounds_toArray, List.set_cons_zero, List.set_cons_succ]
          refine take_dst 9 152 (v := ?_) rfl (by kernel_rfl) (by kernel_rfl) (by kernel_rfl) rfl (fun _ _ _ h => h) (Or.inl ⟨by rfl, ?_⟩) (by assumption) ?_
          rotate_left
          · intro wx hSw
            first | (go_simp; done) | (go_simp; with_reducible rfl)
          simp only [Act.put, List.setIfInBounds_toArray, List.set_cons_zero, List.set_cons_succ]
          refine wpAnyH_ready (rs := [4, 10]) (by kernel_rfl) (by simp) ?_
          refine AllReadyH.cons (o := { dst := some 147, op := Op.load 35 (Operand.tmp 146), type := 35, pos := "keeps.go:110", after := #[{ on := 3, ground := Ground.data }], guard := none }) rfl (fun K hK => ?_) ?_
          · go_simp
            refine hK.out _ _ trivial (fun hHeld => ?_)
            clear hK K
            try simp only [Act.put, List.setIfInBounds_toArray, List.set_cons_zero, List.set_cons_succ]
            refine wpAnyH_ready (rs := [10]) (by kernel_rfl) (by simp) ?_
            refine AllReadyH.cons (o := { dst := some 153, op := Op.buildSlice 35 1 #[(0, Operand.tmp 152)], type := 35, pos := "keeps.go:110", after := #[{ on := 9, ground := Ground.data }], guard := none }) rfl (fun K hK => ?_) ?_
            · go_simp
              refine hK.out _ _ trivial (fun hHeld => ?_)
              clear hK K
              try simp only [Act.put, List.setIfInBounds_toArray, List.set_cons_zero, List.set_cons_succ]
              refine wpAnyH_ready (rs := [11]) (by kernel_rfl) (by simp) ?_
              refine AllReadyH.cons (o := { dst := some 154, op := Op.call { callee := Callee.builtin Builtin.append, args := #[Operand.tmp 147, Operand.tmp 153], argTypes := #[35, 35] }, type := 35, pos := "keeps.go:110", after := #[{ on := 4, ground := Ground.data }, { on := 10, ground := Ground.data }], guard := none }) rfl (fun K hK => ?_) ?_
              · refine step_append_lies _ rfl (.tmp 147) (.tmp 153) 35 rfl base 40 i0 _ 3 40 Tryd.underlying35 hi hi0 hi1 hi2 rfl (by decide) v L.length (encB L) rfl Hrow.out ⟨w'.heap.size + 1, 0, none⟩ 1 1 [.int .i64 ad, .int .i64 (1 + (p : Int)), .slice (some ⟨w'.heap.size, 0, none⟩) (p + 1) (p + 1)] rfl rfl (World.news_of_block Hbk.out) (by simp [Value.oneCell']) (by omega) (by unfold maxLen; omega) (by omega) (by rw [hsm]; omega) (w'.heap.size + 2) hsm ?_
                intro g cap w1 hown hgrow hat hlt1
                obtain ⟨hpost, hc5, hf5⟩ := HP.out g cap w1 hown hgrow hat
                have HPP : Hid _ := hpost
                clear hpost
                refine hK.out _ _ trivial (fun hHeld => ?_)
                clear hK K
                try simp only [Act.put, List.setIfInBounds_toArray, List.set_cons_zero, List.set_cons_succ]
                refine take_dst 12 155 (v := ?_) rfl (by kernel_rfl) (by kernel_rfl) (by kernel_rfl) rfl (fun _ _ _ h => h) (Or.inl ⟨by rfl, ?_⟩) (by assumption) ?_
                rotate_left
                · intro wx hSw
                  first | (go_simp; done) | (go_simp; with_reducible rfl)
                simp only [Act.put, List.setIfInBounds_toArray, List.set_cons_zero, List.set_cons_succ]
                refine take_dst 13 156 (v := ?_) rfl (by kernel_rfl) (by kernel_rfl) (by kernel_rfl) rfl (fun _ _ _ h => h) (Or.inl ⟨by rfl, ?_⟩) (by assumption) ?_
                rotate_left
                · intro wx hSw
                  first | (go_simp; done) | (go_simp; with_reducible rfl)
                simp only [Act.put, List.setIfInBounds_toArray, List.set_cons_zero, List.set_cons_succ]
                refine wpAnyH_ready (rs := [14]) (by kernel_rfl) (by simp) ?_
                refine AllReadyH.cons (o := { dst := none, op := Op.store 35 (Operand.tmp 156) (Operand.tmp 154), type := 0, pos := "keeps.go:110", after := #[{ on := 13, ground := Ground.data }, { on := 11, ground := Ground.data }, { on := 11, ground := Ground.chain }, { on := 0, ground := Ground.phase }, { on := 1, ground := Ground.phase }, { on := 2, ground := Ground.phase }, { on := 3, ground := Ground.phase }, { on := 4, ground := Ground.phase }, { on := 5, ground := Ground.phase }, { on := 6, ground := Ground.phase }, { on := 7, ground := Ground.phase }, { on := 8, ground := Ground.phase }, { on := 9, ground := Ground.phase }, { on := 10, ground := Ground.phase }, { on := 11, ground := Ground.phase }], guard := none }) rfl (fun K hK => ?_) ?_
                · go_simp
                  refine hK.out _ _ trivial (fun hHeld => ?_)
                  clear hK K
                  try simp only [Act.put, List.setIfInBounds_toArray, List.set_cons_zero, List.set_cons_succ]
                  refine wpAnyH_done (by kernel_rfl) ?_ _
                  clear hHeld hc4a hc4b hc4c hc4 hf4 hmk
                  go_wp2
                  go_ret
                  exact ⟨rfl, HPP.out⟩
                exact AllReadyH.nil
              exact AllReadyH.nil
            exact AllReadyH.nil
          refine AllReadyH.cons (o := { dst := some 153, op := Op.buildSlice 35 1 #[(0, Operand.tmp 152)], type := 35, pos := "keeps.go:110", after := #[{ on := 9, ground := Ground.data }], guard := none }) rfl (fun K hK => ?_) ?_
          · go_simp
            refine hK.out _ _ trivial (fun hHeld => ?_)
            clear hK K
            try simp only [Act.put, List.setIfInBounds_toArray, List.set_cons_zero, List.set_cons_succ]
            refine wpAnyH_ready (rs := [4]) (by kernel_rfl) (by simp) ?_
            refine AllReadyH.cons (o := { dst := some 147, op := Op.load 35 (Operand.tmp 146), type := 35, pos := "keeps.go:110", after := #[{ on := 3, ground := Ground.data }], guard := none }) rfl (fun K hK => ?_) ?_
            · go_simp
              refine hK.out _ _ trivial (fun hHeld => ?_)
              clear hK K
              try simp only [Act.put, List.setIfInBounds_toArray, List.set_cons_zero, List.set_cons_succ]
              refine wpAnyH_ready (rs := [11]) (by kernel_rfl) (by simp) ?_
              refine AllReadyH.cons (o := { dst := some 154, op := Op.call { callee := Callee.builtin Builtin.append, args := #[Operand.tmp 147, Operand.tmp 153], argTypes := #[35, 35] }, type := 35, pos := "keeps.go:110", after := #[{ on := 4, ground := Ground.data }, { on := 10, ground := Ground.data }], guard := none }) rfl (fun K hK => ?_) ?_
              · refine step_append_lies _ rfl (.tmp 147) (.tmp 153) 35 rfl base 40 i0 _ 3 40 Tryd.underlying35 hi hi0 hi1 hi2 rfl (by decide) v L.length (encB L) rfl Hrow.out ⟨w'.heap.size + 1, 0, none⟩ 1 1 [.int .i64 ad, .int .i64 (1 + (p : Int)), .slice (some ⟨w'.heap.size, 0, none⟩) (p + 1) (p + 1)] rfl rfl (World.news_of_block Hbk.out) (by simp [Value.oneCell']) (by omega) (by unfold maxLen; omega) (by omega) (by rw [hsm]; omega) (w'.heap.size + 2) hsm ?_
                intro g cap w1 hown hgrow hat hlt1
                obtain ⟨hpost, hc5, hf5⟩ := HP.out g cap w1 hown hgrow hat
                have HPP : Hid _ := hpost
                clear hpost
                refine hK.out _ _ trivial (fun hHeld => ?_)
                clear hK K
                try simp only [Act.put, List.setIfInBounds_toArray, List.set_cons_zero, List.set_cons_succ]
                refine take_dst 12 155 (v := ?_) rfl (by kernel_rfl) (by kernel_rfl) (by kernel_rfl) rfl (fun _ _ _ h => h) (Or.inl ⟨by rfl, ?_⟩) (by assumption) ?_
                rotate_left
                · intro wx hSw
                  first | (go_simp; done) | (go_simp; with_reducible rfl)
                simp only [Act.put, List.setIfInBounds_toArray, List.set_cons_zero, List.set_cons_succ]
                refine take_dst 13 156 (v := ?_) rfl (by kernel_rfl) (by kernel_rfl) (by kernel_rfl) rfl (fun _ _ _ h => h) (Or.inl ⟨by rfl, ?_⟩) (by assumption) ?_
                rotate_left
                · intro wx hSw
                  first | (go_simp; done) | (go_simp; with_reducible rfl)
                simp only [Act.put, List.setIfInBounds_toArray, List.set_cons_zero, List.set_cons_succ]
                refine wpAnyH_ready (rs := [14]) (by kernel_rfl) (by simp) ?_
                refine AllReadyH.cons (o := { dst := none, op := Op.store 35 (Operand.tmp 156) (Operand.tmp 154), type := 0, pos := "keeps.go:110", after := #[{ on := 13, ground := Ground.data }, { on := 11, ground := Ground.data }, { on := 11, ground := Ground.chain }, { on := 0, ground := Ground.phase }, { on := 1, ground := Ground.phase }, { on := 2, ground := Ground.phase }, { on := 3, ground := Ground.phase }, { on := 4, ground := Ground.phase }, { on := 5, ground := Ground.phase }, { on := 6, ground := Ground.phase }, { on := 7, ground := Ground.phase }, { on := 8, ground := Ground.phase }, { on := 9, ground := Ground.phase }, { on := 10, ground := Ground.phase }, { on := 11, ground := Ground.phase }], guard := none }) rfl (fun K hK => ?_) ?_
                · go_simp
                  refine hK.out _ _ trivial (fun hHeld => ?_)
                  clear hK K
                  try simp only [Act.put, List.setIfInBounds_toArray, List.set_cons_zero, List.set_cons_succ]
                  refine wpAnyH_done (by kernel_rfl) ?_ _
                  clear hHeld hc4a hc4b hc4c hc4 hf4 hmk
                  go_wp2
                  go_ret
                  exact ⟨rfl, HPP.out⟩
                exact AllReadyH.nil
              exact AllReadyH.nil
            exact AllReadyH.nil
          exact AllReadyH.nil
        exact AllReadyH.nil
    · have hk0b : (k == 0) = false := beq_eq_false_iff_ne.2 hk0
      obtain rfl : p = p1 := by simpa [hk0] using hpk
      clear hpk
      go_enter Tryd.func15, Tryd.ntmps15
      go_wp2_with fail
      rw [HW0.out]
      clear w0 HW0
      refine Calls.mono (H1.out _) ?_
      rintro e w' ⟨rfl, rfl⟩
      go_wp2_with fail
      go_region_held3 (fun w' => Ext fp W0 w') (first | assumption | exact (Ext.refl _ _).drew)
        (first | (go_at_call 20; refine Calls.mono (Hq.out _) ?_; rintro e w' ⟨rfl, rfl⟩) | (go_at_call 21; refine Calls.mono (Hdp.out _ (Ext.refl _ _).drew) ?_; rintro e w' ⟨rfl, hxx, hpp⟩))
      all_goals
        have hfl := hxx.keep Hb1.out b5
        have hc4 : w'.cell? ⟨fl, 4, none⟩ = some v := by rw [cell_of hfl 4]; rfl
        have hf4 := frozen_of hfl 4
        have hlf := lt_of_heap hfl
        have hmk := mkBy p hp
        have hEm : Ext none1 w' ((w'.alloc (.cells (Array.replicate (p + 1) (Value.int .i64 0)) 3)).alloc (.cells #[.int .i64 ad, .int .i64 (1 + (p : Int)), .slice (some ⟨w'.heap.size, 0, none⟩) (p + 1) (p + 1)] 40)).drew := (((Ext.refl _ _).alloc _).alloc _).drew
        have hsm : (((w'.alloc (.cells (Array.replicate (p + 1) (Value.int .i64 0)) 3)).alloc (.cells #[.int .i64 ad, .int .i64 (1 + (p : Int)), .slice (some ⟨w'.heap.size, 0, none⟩) (p + 1) (p + 1)] 40)).drew).heap.size = w'.heap.size + 2 := by simp
        have hr1 : w'.ownsRow base 40 3 v L.length (encB L) := ownsRow_ext Hb3.out hxx (fun g hg => (b7 g hg).2.1)
        have hrow : (((w'.alloc (.cells (Array.replicate (p + 1) (Value.int .i64 0)) 3)).alloc (.cells #[.int .i64 ad, .int .i64 (1 + (p : Int)), .slice (some ⟨w'.heap.size, 0, none⟩) (p + 1) (p + 1)] 40)).drew).ownsRow base 40 3 v L.length (encB L) := ownsRow_ext hr1 hEm (fun _ _ x => x)
        have hbk : (((w'.alloc (.cells (Array.replicate (p + 1) (Value.int .i64 0)) 3)).alloc (.cells #[.int .i64 ad, .int .i64 (1 + (p : Int)), .slice (some ⟨w'.heap.size, 0, none⟩) (p + 1) (p + 1)] 40)).drew).heap[w'.heap.size + 1]? = some (.cells #[.int .i64 ad, .int .i64 (1 + (p : Int)), .slice (some ⟨w'.heap.size, 0, none⟩) (p + 1) (p + 1)] 40 (0, 0)) := heap_alloc2_new _ _ _
        have hby : (((w'.alloc (.cells (Array.replicate (p + 1) (Value.int .i64 0)) 3)).alloc (.cells #[.int .i64 ad, .int .i64 (1 + (p : Int)), .slice (some ⟨w'.heap.size, 0, none⟩) (p + 1) (p + 1)] 40)).drew).heap[w'.heap.size]? = some (.cells (Array.replicate (p + 1) (Value.int .i64 0)) 3 (0, 0)) := (Below.heap_alloc _ _ _ (by simp)).trans (heap_alloc_new _ _)
        have Hrow : Hid _ := hrow
        have Hbk : Hid _ := hbk
        have hbw : base ≤ w'.heap.size := by have := hxx.size; have := HE0.out.size; omega
        have HP : Hid (∀ g cap w1, w1.ownsRow base 40 3 (.slice (some ⟨g, 0, none⟩) (L.length + 1) cap) (L.length + 1) (encB L ++ [.int .i64 ad, .int .i64 (1 + (p : Int)), .slice (some ⟨w'.heap.size, 0, none⟩) (p + 1) (p + 1)]) → World.grownBy (((w'.alloc (.cells (Array.replicate (p + 1) (Value.int .i64 0)) 3)).alloc (.cells #[.int .i64 ad, .int .i64 (1 + (p : Int)), .slice (some ⟨w'.heap.size, 0, none⟩) (p + 1) (p + 1)] 40)).drew) w1 v.ownBlock → (v.ownBlock = some g ∨ g = w'.heap.size + 2) →
            FarmPost PA W (w1.setCell ⟨fl, 4, none⟩ (.slice (some ⟨g, 0, none⟩) (L.length + 1) cap)) fl base foot S ∧ w1.cell? ⟨fl, 4, none⟩ = some v ∧ w1.frozen? ⟨fl, 4, none⟩ = false) := by
          intro g cap w1 hown hgrow hat
          obtain ⟨fp', r1, r2, r3⟩ := hpp
          obtain ⟨f1, f2, f3, f4⟩ := HA0.out.ok.malloc (w := (q : Int)) (size := 1 + (p : Int)) (by omega) (by omega) (by omega) (by omega) Hm.out
          have htn : (1 + (p : Int)).toNat = p + 1 := by omega
          have z1 := hxx.size
          have hE2 : Ext (fun k => v.ownBlock = some k) w' w1 := ⟨hgrow.os.trans hEm.os, hgrow.tape.trans hEm.tape, hgrow.output.trans hEm.output, Nat.le_trans hEm.size hgrow.size, fun k hk hn => (hgrow.block k (Nat.lt_of_lt_of_le hk hEm.size) (fun e => hn e.symm)).trans (hEm.block k hk (fun x => x))⟩
          have hvl : ∀ k, v.ownBlock = some k → k < W0.heap.size := fun k hk => HA0.out.flt _ (b7 k hk).1
          have hvf : ¬ v.ownBlock = some fl := fun e => by have := (own_base Hb3.out e).1; have := HA0.out.low; omega
          have hc := hE2.keep hfl hvf
          have hyl : ∀ y ∈ L, y.g < W0.heap.size := fun y hy => HA0.out.flt _ (HA0.out.rows y hy).2.1
          have hby1 : w1.heap[w'.heap.size]? = some (.cells (Array.replicate (p + 1) (Value.int .i64 0)) 3 (0, 0)) := (hgrow.block _ (lt_of_heap hby) (fun e => by have := hvl _ e.symm; omega)).trans hby
          have henc : encB (L ++ [⟨⟨ad, 1 + (p : Int), List.replicate (1 + (p : Int)).toNat 0⟩, w'.heap.size⟩]) = encB L ++ [.int .i64 ad, .int .i64 (1 + (p : Int)), .slice (some ⟨w'.heap.size, 0, none⟩) (p + 1) (p + 1)] := by
            rw [encB_append]; simp [encB, htn]
          obtain ⟨foot', g1, g2, g3⟩ := FarmAt.renew F HA0.out Hb1.out Hb3.out b4 b5 b6 b7 (by have := HE0.out.size; omega) r1 hxx (fun k hk => r3 k hk) hE2
            (L' := L ++ [⟨⟨ad, 1 + (p : Int), List.replicate (1 + (p : Int)).toNat 0⟩, w'.heap.size⟩]) (v2 := .slice (some ⟨g, 0, none⟩) (L.length + 1) cap)
            (by rw [henc, List.length_append]; exact hown)
            (fun k hk => by
              have hk : g = k := by simpa [Value.ownBlock] using hk
              subst hk
              rcases hat with e | e
              · exact .inl e
              · exact .inr (by omega))
            (fun y hy => by
              rcases List.mem_append.1 hy with h | h
              · exact .inl h
              · obtain rfl := List.mem_singleton.1 h
                refine .inr ⟨Nat.le_refl _, ?_⟩
                rw [hby1, htn]
                simp)
            (fun k hk y hy => by
              have hk : g = k := by simpa [Value.ownBlock] using hk
              subst hk
              rcases List.mem_append.1 hy with h | h
              · rcases hat with e | e
                · exact (b7 _ e).2.2 y h
                · have := hyl y h; omega
              · obtain rfl := List.mem_singleton.1 h
                rcases hat with e | e
                · have := hvl _ e; show w'.heap.size ≠ g; omega
                · show w'.heap.size ≠ g; omega)
            (List.pairwise_append.2 ⟨HA0.out.dist, by simp, fun y hy z hz => by
              obtain rfl := List.mem_singleton.1 hz
              have := hyl y hy
              show y.g ≠ w'.heap.size
              omega⟩)
            (by rw [List.map_append]; exact f1) f2 f3 f4
          refine ⟨⟨foot', _, _, g1, (HE0.out.mono (fun _ _ x => x.elim)).trans g2, fun k hk => (g3 k hk).imp id (fun h => Nat.le_trans HE0.out.size h), f2, f3, f4, fun hl => HL.out hl, fun hl c => HT.out hl c⟩, ?_, frozen_of hc 4⟩
          rw [cell_of hc 4]; rfl
        have hc4a : w'.drew.cell? ⟨fl, 4, none⟩ = some v := hc4
        have hc4b : (w'.alloc (.cells (Array.replicate (p + 1) (Value.int .i64 0)) 3)).drew.cell? ⟨fl, 4, none⟩ = some v := by rw [cell_of ((((Ext.refl none1 w').alloc _).drew).keep hfl (fun x => x)) 4]; rfl
        have hc4c : (((w'.alloc (.cells (Array.replicate (p + 1) (Value.int .i64 0)) 3)).alloc (.cells #[.int .i64 ad, .int .i64 (1 + (p : Int)), .slice (some ⟨w'.heap.size, 0, none⟩) (p + 1) (p + 1)] 40)).drew).cell? ⟨fl, 4, none⟩ = some v := by rw [cell_of (hEm.keep hfl (fun x => x)) 4]; rfl
        clear hpp hEm hrow hbk hby hr1 hfl
        go_wp2_with fail
        refine wp_region_held_drew (S := fun _ => True) (by kernel_rfl) trivial (fun hHeld => ?_)
        refine take_dst 0 143 (v := ?_) rfl (by kernel_rfl) (by kernel_rfl) (by kernel_rfl) rfl (fun _ _ _ h => h) (Or.inl ⟨by rfl, ?_⟩) (by assumption) ?_
        rotate_left
        · intro wx hSw
          first | (go_simp; done) | (go_simp; with_reducible rfl)
        simp only [Act.put, List.setIfInBounds_toArray, List.set_cons_zero, List.set_cons_succ]
        refine take_dst 1 144 (v := ?_) rfl (by kernel_rfl) (by kernel_rfl) (by kernel_rfl) rfl (fun _ _ _ h => h) (Or.inl ⟨by rfl, ?_⟩) (by assumption) ?_
        rotate_left
        · intro wx hSw
          first | (go_simp; done) | (go_simp; with_reducible rfl)
        simp only [Act.put, List.setIfInBounds_toArray, List.set_cons_zero, List.set_cons_succ]
        refine take_dst 2 145 (v := ?_) rfl (by kernel_rfl) (by kernel_rfl) (by kernel_rfl) rfl (fun _ _ _ h => h) (Or.inl ⟨by rfl, ?_⟩) (by assumption) ?_
        rotate_left
        · intro wx hSw
          first | (go_simp; done) | (go_simp; with_reducible rfl)
        simp only [Act.put, List.setIfInBounds_toArray, List.set_cons_zero, List.set_cons_succ]
        refine take_dst 3 146 (v := ?_) rfl (by kernel_rfl) (by kernel_rfl) (by kernel_rfl) rfl (fun _ _ _ h => h) (Or.inl ⟨by rfl, ?_⟩) (by assumption) ?_
        rotate_left
        · intro wx hSw
          first | (go_simp; done) | (go_simp; with_reducible rfl)
        simp only [Act.put, List.setIfInBounds_toArray, List.set_cons_zero, List.set_cons_succ]
        refine take_dst 5 148 (v := ?_) rfl (by kernel_rfl) (by kernel_rfl) (by kernel_rfl) rfl (fun _ _ _ h => h) (Or.inl ⟨by rfl, ?_⟩) (by assumption) ?_
        rotate_left
        · intro wx hSw
          first | (go_simp; done) | (go_simp; with_reducible rfl)
        simp only [Act.put, List.setIfInBounds_toArray, List.set_cons_zero, List.set_cons_succ]
        refine take_dst 6 149 (v := ?_) rfl (by kernel_rfl) (by kernel_rfl) (by kernel_rfl) rfl (fun _ _ _ h => h) (Or.inl ⟨by rfl, ?_⟩) (by assumption) ?_
        rotate_left
        · intro wx hSw
          first | (go_simp; done) | (go_simp; with_reducible rfl)
        simp only [Act.put, List.setIfInBounds_toArray, List.set_cons_zero, List.set_cons_succ]
        refine take_dst 7 150 (v := ?_) rfl (by kernel_rfl) (by kernel_rfl) (by kernel_rfl) rfl (fun _ _ _ h => h) (Or.inl ⟨by rfl, ?_⟩) (by assumption) ?_
        rotate_left
        · intro wx hSw
          first | (go_simp; done) | (go_simp; with_reducible rfl)
        simp only [Act.put, List.setIfInBounds_toArray, List.set_cons_zero, List.set_cons_succ]
        refine wpAnyH_ready (rs := [4, 8]) (by kernel_rfl) (by simp) ?_
        refine AllReadyH.cons (o := { dst := some 147, op := Op.load 35 (Operand.tmp 146), type := 35, pos := "keeps.go:110", after := #[{ on := 3, ground := Ground.data }], guard := none }) rfl (fun K hK => ?_) ?_
        · go_simp
          refine hK.out _ _ trivial (fun hHeld => ?_)
          clear hK K
          try simp only [Act.put, List.setIfInBounds_toArray, List.set_cons_zero, List.set_cons_succ]
          refine wpAnyH_ready (rs := [8]) (by kernel_rfl) (by simp) ?_
          refine AllReadyH.cons (o := { dst := some 151, op := Op.makeSlice 38 (Operand.tmp 150) (Operand.tmp 150), type := 38, pos := "keeps.go:110", after := #[{ on := 7, ground := Ground.data }, { on := 7, ground := Ground.data }], guard := none }) rfl (fun K hK => ?_) ?_
          · go_simp
            refine hK.out _ _ trivial (fun hHeld => ?_)
            clear hK K
            try simp only [Act.put, List.setIfInBounds_toArray, List.set_cons_zero, List.set_cons_succ]
            refine take_dst 9 152 (v := ?_) rfl (by kernel_rfl) (by kernel_rfl) (by kernel_rfl) rfl (fun _ _ _ h => h) (Or.inl ⟨by rfl, ?_⟩) (by assumption) ?_
            rotate_left
            · intro wx hSw
              first | (go_simp; done) | (go_simp; with_reducible rfl)
            simp only [Act.put, List.setIfInBounds_toArray, List.set_cons_zero, List.set_cons_succ]
            refine wpAnyH_ready (rs := [10]) (by kernel_rfl) (by simp) ?_
            refine AllReadyH.cons (o := { dst := some 153, op := Op.buildSlice 35 1 #[(0, Operand.tmp 152)], type := 35, pos := "keeps.go:110", after := #[{ on := 9, ground := Ground.data }], guard := none }) rfl (fun K hK => ?_) ?_
            · go_simp
              refine hK.out _ _ trivial (fun hHeld => ?_)
              clear hK K
              try simp only [Act.put, List.setIfInBounds_toArray, List.set_cons_zero, List.set_cons_succ]
              refine wpAnyH_ready (rs := [11]) (by kernel_rfl) (by simp) ?_
              refine AllReadyH.cons (o := { dst := some 154, op := Op.call { callee := Callee.builtin Builtin.append, args := #[Operand.tmp 147, Operand.tmp 153], argTypes := #[35, 35] }, type := 35, pos := "keeps.go:110", after := #[{ on := 4, ground := Ground.data }, { on := 10, ground := Ground.data }], guard := none }) rfl (fun K hK => ?_) ?_
              · refine step_append_lies _ rfl (.tmp 147) (.tmp 153) 35 rfl base 40 i0 _ 3 40 Tryd.underlying35 hi hi0 hi1 hi2 rfl (by decide) v L.length (encB L) rfl Hrow.out ⟨w'.heap.size + 1, 0, none⟩ 1 1 [.int .i64 ad, .int .i64 (1 + (p : Int)), .slice (some ⟨w'.heap.size, 0, none⟩) (p + 1) (p + 1)] rfl rfl (World.news_of_block Hbk.out) (by simp [Value.oneCell']) (by omega) (by unfold maxLen; omega) (by omega) (by rw [hsm]; omega) (w'.heap.size + 2) hsm ?_
                intro g cap w1 hown hgrow hat hlt1
                obtain ⟨hpost, hc5, hf5⟩ := HP.out g cap w1 hown hgrow hat
                have HPP : Hid _ := hpost
                clear hpost
                refine hK.out _ _ trivial (fun hHeld => ?_)
                clear hK K
                try simp only [Act.put, List.setIfInBounds_toArray, List.set_cons_zero, List.set_cons_succ]
                refine take_dst 12 155 (v := ?_) rfl (by kernel_rfl) (by kernel_rfl) (by kernel_rfl) rfl (fun _ _ _ h => h) (Or.inl ⟨by rfl, ?_⟩) (by assumption) ?_
                rotate_left
                · intro wx hSw
                  first | (go_simp; done) | (go_simp; with_reducible rfl)
                simp only [Act.put, List.setIfInBounds_toArray, List.set_cons_zero, List.set_cons_succ]
                refine take_dst 13 156 (v := ?_) rfl (by kernel_rfl) (by kernel_rfl) (by kernel_rfl) rfl (fun _ _ _ h => h) (Or.inl ⟨by rfl, ?_⟩) (by assumption) ?_
                rotate_left
                · intro wx hSw
                  first | (go_simp; done) | (go_simp; with_reducible rfl)
                simp only [Act.put, List.setIfInBounds_toArray, List.set_cons_zero, List.set_cons_succ]
                refine wpAnyH_ready (rs := [14]) (by kernel_rfl) (by simp) ?_
                refine AllReadyH.cons (o := { dst := none, op := Op.store 35 (Operand.tmp 156) (Operand.tmp 154), type := 0, pos := "keeps.go:110", after := #[{ on := 13, ground := Ground.data }, { on := 11, ground := Ground.data }, { on := 11, ground := Ground.chain }, { on := 0, ground := Ground.phase }, { on := 1, ground := Ground.phase }, { on := 2, ground := Ground.phase }, { on := 3, ground := Ground.phase }, { on := 4, ground := Ground.phase }, { on := 5, ground := Ground.phase }, { on := 6, ground := Ground.phase }, { on := 7, ground := Ground.phase }, { on := 8, ground := Ground.phase }, { on := 9, ground := Ground.phase }, { on := 10, ground := Ground.phase }, { on := 11, ground := Ground.phase }], guard := none }) rfl (fun K hK => ?_) ?_
                · go_simp
                  refine hK.out _ _ trivial (fun hHeld => ?_)
                  clear hK K
                  try simp only [Act.put, List.setIfInBounds_toArray, List.set_cons_zero, List.set_cons_succ]
                  refine wpAnyH_done (by kernel_rfl) ?_ _
                  clear hHeld hc4a hc4b hc4c hc4 hf4 hmk
                  go_wp2
                  go_ret
                  exact ⟨rfl, HPP.out⟩
                exact AllReadyH.nil
              exact AllReadyH.nil
            exact AllReadyH.nil
          exact AllReadyH.nil
        refine AllReadyH.cons (o := { dst := some 151, op := Op.makeSlice 38 (Operand.tmp 150) (Operand.tmp 150), type := 38, pos := "keeps.go:110", after := #[{ on := 7, ground := Ground.data }, { on := 7, ground := Ground.data }], guard := none }) rfl (fun K hK => ?_) ?_
        · go_simp
          refine hK.out _ _ trivial (fun hHeld => ?_)
          clear hK K
          try simp only [Act.put, List.setIfInBounds_toArray, List.set_cons_zero, List.set_cons_succ]
          refine take_dst 9 152 (v := ?_) rfl (by kernel_rfl) (by kernel_rfl) (by kernel_rfl) rfl (fun _ _ _ h => h) (Or.inl ⟨by rfl, ?_⟩) (by assumption) ?_
          rotate_left
          · intro wx hSw
            first | (go_simp; done) | (go_simp; with_reducible rfl)
          simp only [Act.put, List.setIfInBounds_toArray, List.set_cons_zero, List.set_cons_succ]
          refine wpAnyH_ready (rs := [4, 10]) (by kernel_rfl) (by simp) ?_
          refine AllReadyH.cons (o := { dst := some 147, op := Op.load 35 (Operand.tmp 146), type := 35, pos := "keeps.go:110", after := #[{ on := 3, ground := Ground.data }], guard := none }) rfl (fun K hK => ?_) ?_
          · go_simp
            refine hK.out _ _ trivial (fun hHeld => ?_)
            clear hK K
            try simp only [Act.put, List.setIfInBounds_toArray, List.set_cons_zero, List.set_cons_succ]
            refine wpAnyH_ready (rs := [10]) (by kernel_rfl) (by simp) ?_
            refine AllReadyH.cons (o := { dst := some 153, op := Op.buildSlice 35 1 #[(0, Operand.tmp 152)], type := 35, pos := "keeps.go:110", after := #[{ on := 9, ground := Ground.data }], guard := none }) rfl (fun K hK => ?_) ?_
            · go_simp
              refine hK.out _ _ trivial (fun hHeld => ?_)
              clear hK K
              try simp only [Act.put, List.setIfInBounds_toArray, List.set_cons_zero, List.set_cons_succ]
              refine wpAnyH_ready (rs := [11]) (by kernel_rfl) (by simp) ?_
              refine AllReadyH.cons (o := { dst := some 154, op := Op.call { callee := Callee.builtin Builtin.append, args := #[Operand.tmp 147, Operand.tmp 153], argTypes := #[35, 35] }, type := 35, pos := "keeps.go:110", after := #[{ on := 4, ground := Ground.data }, { on := 10, ground := Ground.data }], guard := none }) rfl (fun K hK => ?_) ?_
              · refine step_append_lies _ rfl (.tmp 147) (.tmp 153) 35 rfl base 40 i0 _ 3 40 Tryd.underlying35 hi hi0 hi1 hi2 rfl (by decide) v L.length (encB L) rfl Hrow.out ⟨w'.heap.size + 1, 0, none⟩ 1 1 [.int .i64 ad, .int .i64 (1 + (p : Int)), .slice (some ⟨w'.heap.size, 0, none⟩) (p + 1) (p + 1)] rfl rfl (World.news_of_block Hbk.out) (by simp [Value.oneCell']) (by omega) (by unfold maxLen; omega) (by omega) (by rw [hsm]; omega) (w'.heap.size + 2) hsm ?_
                intro g cap w1 hown hgrow hat hlt1
                obtain ⟨hpost, hc5, hf5⟩ := HP.out g cap w1 hown hgrow hat
                have HPP : Hid _ := hpost
                clear hpost
                refine hK.out _ _ trivial (fun hHeld => ?_)
                clear hK K
                try simp only [Act.put, List.setIfInBounds_toArray, List.set_cons_zero, List.set_cons_succ]
                refine take_dst 12 155 (v := ?_) rfl (by kernel_rfl) (by kernel_rfl) (by kernel_rfl) rfl (fun _ _ _ h => h) (Or.inl ⟨by rfl, ?_⟩) (by assumption) ?_
                rotate_left
                · intro wx hSw
                  first | (go_simp; done) | (go_simp; with_reducible rfl)
                simp only [Act.put, List.setIfInBounds_toArray, List.set_cons_zero, List.set_cons_succ]
                refine take_dst 13 156 (v := ?_) rfl (by kernel_rfl) (by kernel_rfl) (by kernel_rfl) rfl (fun _ _ _ h => h) (Or.inl ⟨by rfl, ?_⟩) (by assumption) ?_
                rotate_left
                · intro wx hSw
                  first | (go_simp; done) | (go_simp; with_reducible rfl)
                simp only [Act.put, List.setIfInBounds_toArray, List.set_cons_zero, List.set_cons_succ]
                refine wpAnyH_ready (rs := [14]) (by kernel_rfl) (by simp) ?_
                refine AllReadyH.cons (o := { dst := none, op := Op.store 35 (Operand.tmp 156) (Operand.tmp 154), type := 0, pos := "keeps.go:110", after := #[{ on := 13, ground := Ground.data }, { on := 11, ground := Ground.data }, { on := 11, ground := Ground.chain }, { on := 0, ground := Ground.phase }, { on := 1, ground := Ground.phase }, { on := 2, ground := Ground.phase }, { on := 3, ground := Ground.phase }, { on := 4, ground := Ground.phase }, { on := 5, ground := Ground.phase }, { on := 6, ground := Ground.phase }, { on := 7, ground := Ground.phase }, { on := 8, ground := Ground.phase }, { on := 9, ground := Ground.phase }, { on := 10, ground := Ground.phase }, { on := 11, ground := Ground.phase }], guard := none }) rfl (fun K hK => ?_) ?_
                · go_simp
                  refine hK.out _ _ trivial (fun hHeld => ?_)
                  clear hK K
                  try simp only [Act.put, List.setIfInBounds_toArray, List.set_cons_zero, List.set_cons_succ]
                  refine wpAnyH_done (by kernel_rfl) ?_ _
                  clear hHeld hc4a hc4b hc4c hc4 hf4 hmk
                  go_wp2
                  go_ret
                  exact ⟨rfl, HPP.out⟩
                exact AllReadyH.nil
              exact AllReadyH.nil
            exact AllReadyH.nil
          refine AllReadyH.cons (o := { dst := some 153, op := Op.buildSlice 35 1 #[(0, Operand.tmp 152)], type := 35, pos := "keeps.go:110", after := #[{ on := 9, ground := Ground.data }], guard := none }) rfl (fun K hK => ?_) ?_
          · go_simp
            refine hK.out _ _ trivial (fun hHeld => ?_)
            clear hK K
            try simp only [Act.put, List.setIfInBounds_toArray, List.set_cons_zero, List.set_cons_succ]
            refine wpAnyH_ready (rs := [4]) (by kernel_rfl) (by simp) ?_
            refine AllReadyH.cons (o := { dst := some 147, op := Op.load 35 (Operand.tmp 146), type := 35, pos := "keeps.go:110", after := #[{ on := 3, ground := Ground.data }], guard := none }) rfl (fun K hK => ?_) ?_
            · go_simp
              refine hK.out _ _ trivial (fun hHeld => ?_)
              clear hK K
              try simp only [Act.put, List.setIfInBounds_toArray, List.set_cons_zero, List.set_cons_succ]
              refine wpAnyH_ready (rs := [11]) (by kernel_rfl) (by simp) ?_
              refine AllReadyH.cons (o := { dst := some 154, op := Op.call { callee := Callee.builtin Builtin.append, args := #[Operand.tmp 147, Operand.tmp 153], argTypes := #[35, 35] }, type := 35, pos := "keeps.go:110", after := #[{ on := 4, ground := Ground.data }, { on := 10, ground := Ground.data }], guard := none }) rfl (fun K hK => ?_) ?_
              · refine step_append_lies _ rfl (.tmp 147) (.tmp 153) 35 rfl base 40 i0 _ 3 40 Tryd.underlying35 hi hi0 hi1 hi2 rfl (by decide) v L.length (encB L) rfl Hrow.out ⟨w'.heap.size + 1, 0, none⟩ 1 1 [.int .i64 ad, .int .i64 (1 + (p : Int)), .slice (some ⟨w'.heap.size, 0, none⟩) (p + 1) (p + 1)] rfl rfl (World.news_of_block Hbk.out) (by simp [Value.oneCell']) (by omega) (by unfold maxLen; omega) (by omega) (by rw [hsm]; omega) (w'.heap.size + 2) hsm ?_
                intro g cap w1 hown hgrow hat hlt1
                obtain ⟨hpost, hc5, hf5⟩ := HP.out g cap w1 hown hgrow hat
                have HPP : Hid _ := hpost
                clear hpost
                refine hK.out _ _ trivial (fun hHeld => ?_)
                clear hK K
                try simp only [Act.put, List.setIfInBounds_toArray, List.set_cons_zero, List.set_cons_succ]
                refine take_dst 12 155 (v := ?_) rfl (by kernel_rfl) (by kernel_rfl) (by kernel_rfl) rfl (fun _ _ _ h => h) (Or.inl ⟨by rfl, ?_⟩) (by assumption) ?_
                rotate_left
                · intro wx hSw
                  first | (go_simp; done) | (go_simp; with_reducible rfl)
                simp only [Act.put, List.setIfInBounds_toArray, List.set_cons_zero, List.set_cons_succ]
                refine take_dst 13 156 (v := ?_) rfl (by kernel_rfl) (by kernel_rfl) (by kernel_rfl) rfl (fun _ _ _ h => h) (Or.inl ⟨by rfl, ?_⟩) (by assumption) ?_
                rotate_left
                · intro wx hSw
                  first | (go_simp; done) | (go_simp; with_reducible rfl)
                simp only [Act.put, List.setIfInBounds_toArray, List.set_cons_zero, List.set_cons_succ]
                refine wpAnyH_ready (rs := [14]) (by kernel_rfl) (by simp) ?_
                refine AllReadyH.cons (o := { dst := none, op := Op.store 35 (Operand.tmp 156) (Operand.tmp 154), type := 0, pos := "keeps.go:110", after := #[{ on := 13, ground := Ground.data }, { on := 11, ground := Ground.data }, { on := 11, ground := Ground.chain }, { on := 0, ground := Ground.phase }, { on := 1, ground := Ground.phase }, { on := 2, ground := Ground.phase }, { on := 3, ground := Ground.phase }, { on := 4, ground := Ground.phase }, { on := 5, ground := Ground.phase }, { on := 6, ground := Ground.phase }, { on := 7, ground := Ground.phase }, { on := 8, ground := Ground.phase }, { on := 9, ground := Ground.phase }, { on := 10, ground := Ground.phase }, { on := 11, ground := Ground.phase }], guard := none }) rfl (fun K hK => ?_) ?_
                · go_simp
                  refine hK.out _ _ trivial (fun hHeld => ?_)
                  clear hK K
                  try simp only [Act.put, List.setIfInBounds_toArray, List.set_cons_zero, List.set_cons_succ]
                  refine wpAnyH_done (by kernel_rfl) ?_ _
                  clear hHeld hc4a hc4b hc4c hc4 hf4 hmk
                  go_wp2
                  go_ret
                  exact ⟨rfl, HPP.out⟩
                exact AllReadyH.nil
              exact AllReadyH.nil
            exact AllReadyH.nil
          exact AllReadyH.nil
        exact AllReadyH.nil
end Go.Proofs.YtbagfepdmmfegaaDoor

/- A STEP, of whatever kind; a script of steps. -/
namespace Go.Proofs.YtbagfepdmmfegaaDoor
open Go.RowKit

theorem step_any {PA : World → Nat → (Nat → Prop) → Ti.St → Prop} {big : Prop} (F : Face PA big) (hbig : big) (W : World) (fl base : Nat) (foot : Nat → Prop) (S : Ti.St) (L : List Hb) (hA : FarmAt PA W fl base foot S L) (hbase : base ≤ W.heap.size) (k a b : Int) (a0 : -9223372036854775808 ≤ a) (a1 : a ≤ 9223372036854775807) (c0 : -9223372036854775808 ≤ b) (c1 : b ≤ 9223372036854775807) :
    Calls Tryd.prog 15 #[.pointer (some ⟨fl, 0, none⟩), .agg #[.int .i64 k, .int .i64 a, .int .i64 b]] W fun e W' => e = .returned (.bool true) ∧ FarmPost PA W W' fl base foot S := by
  by_cases hL : L.length = 0
  · obtain rfl := List.eq_nil_of_length_eq_zero hL
    by_cases hk : k = 1 ∨ k = 2
    · exact step_none F W fl base foot S hA k a b hk
    · exact step_malloc F hbig W fl base foot S [] hA hbase k a b (fun e => hk (.inl e)) (fun e => hk (.inr e)) a0 a1 c0 c1
  · by_cases h1 : k = 1
    · subst h1; exact step_free F W fl base foot S L hA (by omega) a b a0 a1
    · by_cases h2 : k = 2
      · subst h2; exact step_store F W fl base foot S L hA (by omega) a b a0 a1 c0 c1
      · exact step_malloc F hbig W fl base foot S L hA hbase k a b h1 h2 a0 a1 c0 c1

/-- a step of a script -/
structure O3 where
  k : Int
  a : Int
  b : Int
def O3.ok (o : O3) : Prop := -9223372036854775808 ≤ o.a ∧ o.a ≤ 9223372036854775807 ∧ -9223372036854775808 ≤ o.b ∧ o.b ≤ 9223372036854775807

/-- a script lies there -/
def S3At (W : World) (sv : Value) (ops : List O3) : Prop :=
  (sv = .slice none 0 0 ∧ ops = []) ∨ ∃ (ad : Addr) (cap : Nat), sv = .slice (some ad) ops.length cap ∧
    ∀ (i : Nat) (o : O3), ops[i]? = some o → W.cell? (ad.add (i * 3)) = some (.int .i64 o.k) ∧ W.cell? (ad.add (i * 3 + 1)) = some (.int .i64 o.a) ∧ W.cell? (ad.add (i * 3 + 2)) = some (.int .i64 o.b)
theorem add_block (ad : Addr) (k : Nat) : (ad.add k).block = ad.block := by unfold Addr.add; split <;> rfl
theorem S3At.keep {W W' : World} {sv : Value} {ops : List O3} (h : S3At W sv ops) (hE : Ext none1 W W') : S3At W' sv ops := by
  rcases h with h | ⟨ad, cap, h1, h2⟩
  · exact .inl h
  · refine .inr ⟨ad, cap, h1, fun i o ho => ?_⟩
    obtain ⟨c0, c1, c2⟩ := h2 i o ho
    have hb : ad.block < W.heap.size := by
      rcases Nat.lt_or_ge ad.block W.heap.size with h | h
      · exact h
      · unfold World.cell? at c0
        rw [Array.getElem?_eq_none (by rw [add_block]; exact h)] at c0
        cases c0
    have hc : ∀ k, W'.cell? (ad.add k) = W.cell? (ad.add k) := fun k => World.cell?_of_block (hE.block _ (by rw [add_block]; exact hb) (fun x => x))
    rw [hc, hc, hc]
    exact ⟨c0, c1, c2⟩

/-- where a farm stands in the middle of a script: nothing that lay ahead of it has changed -/
def Mid (PA : World → Nat → (Nat → Prop) → Ti.St → Prop) (W V : World) (fl : Nat) (h n s : Int) (S : Ti.St) (L : List Hb) : Prop :=
  ∃ foot, FarmAt PA V fl (fl + 1) foot S L ∧ Ext none1 W V ∧ (∀ k, foot k → W.heap.size ≤ k) ∧ W.heap.size ≤ fl ∧ S.heaps = h ∧ (S.sups.length : Int) = n ∧ S.slack = s ∧ Ti.LeanOk S

theorem Mid.step {PA : World → Nat → (Nat → Prop) → Ti.St → Prop} {W V : World} {fl : Nat} {h n s : Int} {S : Ti.St} {L : List Hb} (F : Face PA True) (hm : Mid PA W V fl h n s S L) (o : O3) (ho : o.ok) :
    Calls Tryd.prog 15 #[.pointer (some ⟨fl, 0, none⟩), .agg #[.int .i64 o.k, .int .i64 o.a, .int .i64 o.b]] V fun e V' => e = .returned (.bool true) ∧ ∃ S' L', Mid PA W V' fl h n s S' L' ∧ Ext none1 W V' ∧ ∀ c, S'.tot c ≤ S.tot c ∨ S'.tot c ≤ 2 * S'.chg c + 64 * (S.heaps * S.slack + 1) := by
  obtain ⟨foot, hA, hE, hf, hfl, h1, h2, h3, h4⟩ := hm
  have hlt := hA.flt _ hA.ffl
  refine (step_any F trivial V fl (fl + 1) foot S L hA (by omega) o.k o.a o.b ho.1 ho.2.1 ho.2.2.1 ho.2.2.2).mono ?_
  rintro e V' ⟨rfl, foot', S', L', q1, q2, q3, q4, q5, q6, q7, q8⟩
  have hE' : Ext none1 W V' := hE.trans' q2 (fun k hk hk' => by have := hf k hk'; omega)
  refine ⟨rfl, S', L', ⟨foot', q1, hE', fun k hk => ?_, hfl, q4.trans h1, by rw [q6]; exact h2, q5.trans h3, q7 h4⟩, hE', q8 h4⟩
  rcases q3 k hk with q | q
  · exact hf k q
  · have := hE.size; omega

theorem S3At.shape {W : World} {sv : Value} {ops : List O3} (h : S3At W sv ops) : ∃ pa cap, sv = .slice pa ops.length cap ∧
    ∀ (i : Nat) (o : O3), ops[i]? = some o → ∃ ad, pa = some ad ∧ ad.block < W.heap.size ∧ W.cell? (ad.add (i * 3)) = some (.int .i64 o.k) ∧ W.cell? (ad.add (i * 3 + 1)) = some (.int .i64 o.a) ∧ W.cell? (ad.add (i * 3 + 2)) = some (.int .i64 o.b) := by
  rcases h with ⟨rfl, rfl⟩ | ⟨ad, cap, rfl, h2⟩
  · exact ⟨none, 0, rfl, fun i o ho => by cases ho⟩
  · refine ⟨some ad, cap, rfl, fun i o ho => ?_⟩
    obtain ⟨c0, c1, c2⟩ := h2 i o ho
    refine ⟨ad, rfl, ?_, c0, c1, c2⟩
    rcases Nat.lt_or_ge ad.block W.heap.size with h | h
    · exact h
    · unfold World.cell? at c0
      rw [Array.getElem?_eq_none (by rw [add_block]; exact h)] at c0
      cases c0

theorem add_off (ad : Addr) (k : Nat) : (ad.add k).off = ad.off + k := by unfold Addr.add; split <;> simp_all
theorem cell_add (W : World) (ad : Addr) (k j : Nat) (hj : 0 < j) : W.cell? ⟨(ad.add k).block, (ad.add k).off + j, none⟩ = W.cell? (ad.add (k + j)) := by
  have hs : (ad.add (k + j)).spot = none := by unfold Addr.add; rw [if_neg (by omega)]
  unfold World.cell?
  rw [add_block, add_block, add_off, add_off, hs, Nat.add_assoc]

theorem stats_ok (S : Ti.St) (a c : Int) (a0 : 0 ≤ a) (a1 : a ≤ S.heaps) (c0 : 0 ≤ c) (c1 : c ≤ 2) : S.stats a c = ((S.held a c, S.charged a c), 0) := by
  unfold Ti.St.stats
  rw [if_neg (by omega)]

/-- a farm is opened -/
theorem Mid.opened {PA : World → Nat → (Nat → Prop) → Ti.St → Prop} (F : Face PA True) (W : World) (hG : GlobAt W) (h n s : Int)
    (h0 : -9223372036854775808 ≤ h) (h1 : h ≤ 9223372036854775807) (n0 : -9223372036854775808 ≤ n) (n1 : n ≤ 9223372036854775807) (s0 : -9223372036854775808 ≤ s) (s1 : s ≤ 9223372036854775807) :
    Calls Tryd.prog 14 #[.agg #[.int .i64 h, .int .i64 n, .int .i64 s]] W fun e W' => ∃ fl, e = .returned (.pointer (some ⟨fl, 0, none⟩)) ∧ Ext none1 W W' ∧
      Mid PA W W' fl (1 + pickI h 4) (1 + pickI n 16) (1 + pickI s 4) (Ti.newSt (1 + pickI h 4) (1 + pickI n 16) (1 + pickI s 4)) [] := by
  have hw : 0 < W.heap.size := let ⟨_, h⟩ := hG; h.2
  have ph := pickI_bd h 4 (by omega)
  have pn := pickI_bd n 16 (by omega)
  have ps := pickI_bd s 4 (by omega)
  refine (opened_any F W hG hw h n s h0 h1 n0 n1 s0 s1).mono ?_
  rintro e W' ⟨fl, x, fp, rfl, hp, hE, hfp, hfl, hb⟩
  have hok : Ti.okConfig (1 + pickI h 4) (1 + pickI n 16) (1 + pickI s 4) = true := by
    unfold Ti.okConfig
    simp only [Bool.and_eq_true, decide_eq_true_eq]
    omega
  refine ⟨fl, rfl, hE, _, FarmAt.opened hok hp hw hfp hfl hb, hE, fun k hk => ?_, hfl, rfl, ?_, rfl, ?_⟩
  · rcases hk with hk | hk
    · exact (hfp k hk).1
    · rw [hk]; exact hfl
  · simp only [Ti.newSt, List.length_replicate]; omega
  · have := Ti.lean_new (1 + pickI h 4) (1 + pickI s 4) (1 + pickI n 16).toNat (by omega)
    rwa [Int.toNat_of_nonneg (by omega)] at this

end Go.Proofs.YtbagfepdmmfegaaDoor
