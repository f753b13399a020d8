import Derived.Test.YtbagfepdmmfegaaDoorK24
import Derived.Test.YtbagfepdmmfegaaDoorK21
set_option linter.unusedVariables false
set_option linter.unusedSimpArgs false
/- A BLOCK IS GIVEN BACK. -/
namespace Go.Proofs.YtbagfepdmmfegaaDoor
open Go.RowKit

theorem own_base {W : World} {base : Nat} {e : TypeId} {size : Nat} {v : Value} {n : Nat} {xs : List Value} (h : W.ownsRow base e size v n xs) {g : Nat} (hg : v.ownBlock = some g) : base ≤ g ∧ g < W.heap.size := by
  rcases h.2 with ⟨rfl, _⟩ | ⟨g', cap, cur, rfl, hb, hh, _⟩
  · simp [Value.ownBlock] at hg
  · obtain rfl : g' = g := by simpa [Value.ownBlock] using hg
    exact ⟨hb, lt_of_heap hh⟩

/-- a farm anew, behind a call of its tithe and a new row of blocks -/
theorem FarmAt.renew {PA : World → Nat → (Nat → Prop) → Ti.St → Prop} {big : Prop} (F : Face PA big) {W w' w2 : World} {fl base : Nat} {foot : Nat → Prop} {S S' : Ti.St} {L L' : List Hb} (h : FarmAt PA W fl base foot S L) {x : Nat} {v v2 : Value} {fp fp' : Nat → Prop}
    (b1 : W.heap[fl]? = some (.cells #[.pointer (some ⟨x, 0, none⟩), .int .i64 S.heaps, .int .i64 (S.sups.length : Nat), .int .i64 S.slack, v] 37 (0, 0))) (b3 : W.ownsRow base 40 3 v L.length (encB L)) (b4 : ∀ k, fp k → foot k) (b5 : ¬ fp fl) (b6 : ∀ y ∈ L, ¬ fp y.g)
    (b7 : ∀ g, v.ownBlock = some g → foot g ∧ ¬ fp g ∧ ∀ y ∈ L, y.g ≠ g) (hbase : base ≤ W.heap.size)
    (hPA : PA w' x fp' S') (hE1 : Ext fp W w') (hn1 : ∀ k, fp' k → fp k ∨ (W.heap.size ≤ k ∧ k < w'.heap.size)) (hE2 : Ext (fun k => v.ownBlock = some k) w' w2)
    (hrow : w2.ownsRow base 40 3 v2 L'.length (encB L')) (hv2 : ∀ g, v2.ownBlock = some g → v.ownBlock = some g ∨ w'.heap.size ≤ g)
    (hL' : ∀ y ∈ L', y ∈ L ∨ (w'.heap.size ≤ y.g ∧ w2.heap[y.g]? = some (.cells (y.b.bytes.map (Value.int .i64)).toArray 3 (0, 0)))) (hne : ∀ g, v2.ownBlock = some g → ∀ y ∈ L', y.g ≠ g)
    (hdist : L'.Pairwise (fun a b => a.g ≠ b.g)) (hok : Ti.FarmOk S' (L'.map Hb.b)) (hh : S'.heaps = S.heaps) (hs : S'.slack = S.slack) (hl : S'.sups.length = S.sups.length) :
    ∃ foot', FarmAt PA (w2.setCell ⟨fl, 4, none⟩ v2) fl base foot' S' L' ∧ Ext foot W (w2.setCell ⟨fl, 4, none⟩ v2) ∧ ∀ k, foot' k → foot k ∨ W.heap.size ≤ k := by
  have hlt := lt_of_heap b1
  have z1 := hE1.size
  have z2 := hE2.size
  have hfl : ∀ g, v.ownBlock = some g → g ≠ fl := fun g hg e => by have := (own_base b3 hg).1; have := h.low; omega
  have hf2 : ∀ g, v2.ownBlock = some g → g ≠ fl := fun g hg e => by have := (own_base hrow hg).1; have := h.low; omega
  have c1 := hE1.keep b1 b5
  have c2 := hE2.keep c1 (fun e => hfl _ e rfl)
  have c3 := heap_set c2 4 v2
  have e3 : Ext (one fl) w2 (w2.setCell ⟨fl, 4, none⟩ v2) := (Ext.refl (one fl) w2).setCell ⟨fl, 4, none⟩ (.inl rfl) _
  have hsz : (w2.setCell ⟨fl, 4, none⟩ v2).heap.size = w2.heap.size := by simp [World.setCell]
  have hE23 : Ext (fun k => v.ownBlock = some k ∨ k = fl) w' (w2.setCell ⟨fl, 4, none⟩ v2) := (hE2.mono (fun _ _ x => .inl x)).trans' e3 (fun _ _ e => .inr e)
  have hEall : Ext foot W (w2.setCell ⟨fl, 4, none⟩ v2) := (hE1.mono (fun k _ hk => b4 k hk)).trans' hE23 (fun k _ e => by
    rcases e with e | e
    · exact (b7 k e).1
    · rw [e]; exact h.ffl)
  have hfp0 : ∀ k, fp' k → ¬ (v.ownBlock = some k ∨ k = fl) := fun k hk e => by
    rcases hn1 k hk with q | q
    · rcases e with e | e
      · exact (b7 k e).2.1 q
      · rw [e] at q; exact b5 q
    · rcases e with e | e
      · have := h.flt _ (b7 k e).1; omega
      · omega
  refine ⟨fun k => foot k ∨ (W.heap.size ≤ k ∧ k < w2.heap.size), ⟨⟨x, v2, fp', ?_, F.keep hPA hE23 hfp0 ?_, ownsRow_ext hrow e3 (fun g hg e => hf2 g hg e), ?_, fun hk => hfp0 _ hk (.inr rfl), ?_, ?_⟩, ?_, .inl h.ffl, ?_, h.low, ?_, hdist, hok⟩, hEall, ?_⟩
  · rw [c3, hh, hs, hl]; rfl
  · rintro (e | e)
    · exact h.fpos (b7 0 e).1
    · exact h.fpos (by rw [show 0 = fl from e]; exact h.ffl)
  · intro k hk
    rcases hn1 k hk with q | q
    · exact .inl (b4 k q)
    · exact .inr ⟨q.1, by omega⟩
  · intro y hy hk
    rcases hL' y hy with q | q
    · rcases hn1 _ hk with p | p
      · exact b6 y q p
      · have := h.flt _ (h.rows y q).2.1; omega
    · rcases hn1 _ hk with p | p
      · have := h.flt _ (b4 _ p); omega
      · omega
  · intro g hg
    refine ⟨?_, fun hk => ?_, hne g hg⟩
    · rcases hv2 g hg with q | q
      · exact .inl (b7 g q).1
      · exact .inr ⟨by omega, (own_base hrow hg).2⟩
    · rcases hv2 g hg with q | q
      · exact hfp0 _ hk (.inl q)
      · rcases hn1 _ hk with p | p
        · have := h.flt _ (b4 _ p); omega
        · omega
  · rintro k (hk | hk)
    · have := h.flt k hk; omega
    · omega
  · rintro (hk | hk)
    · exact h.fpos hk
    · omega
  · intro y hy
    rcases hL' y hy with q | q
    · obtain ⟨r1, r2, r3⟩ := h.rows y q
      have k1 := hE1.keep r3 (b6 y q)
      have k2 := hE23.keep k1 (fun e => by
        rcases e with e | e
        · exact (b7 _ e).2.2 y q rfl
        · have := h.low; omega)
      exact ⟨r1, .inl r2, k2⟩
    · have hyl := lt_of_heap q.2
      exact ⟨by omega, .inr ⟨by omega, hyl⟩, e3.keep q.2 (fun e => by have e : y.g = fl := e; omega)⟩
  · rintro k (hk | hk)
    · exact .inl hk
    · exact .inr hk.1

theorem encB_drop (L : List Hb) (k j : Nat) (u : Value) (h : (encB (L.drop k))[j]? = some u) (hk : k ≤ L.length) : (encB L)[k * 3 + j]? = some u := by
  have e : encB L = encB (L.take k) ++ encB (L.drop k) := by rw [← encB_append, List.take_append_drop]
  have hl : (encB (L.take k)).length = k * 3 := by rw [encB_len, List.length_take]; omega
  rw [e, List.getElem?_append_right (by omega), hl]
  rw [show k * 3 + j - k * 3 = j by omega]; exact h

/-- a block less -/
def FarmLess (PA : World → Nat → (Nat → Prop) → Ti.St → Prop) (W W' : World) (fl base : Nat) (foot : Nat → Prop) (S : Ti.St) (m : Nat) : Prop :=
  ∃ foot' S' L', L'.length + 1 = m ∧ FarmAt PA W' fl base foot' S' L' ∧ Ext foot W W' ∧ (∀ k, foot' k → foot k ∨ W.heap.size ≤ k) ∧ S'.heaps = S.heaps ∧ S'.slack = S.slack ∧ S'.sups.length = S.sups.length ∧
    (Ti.LeanOk S → Ti.LeanOk S') ∧ (Ti.LeanOk S → ∀ c, S'.tot c ≤ S.tot c ∨ S'.tot c ≤ 2 * S'.chg c + 64 * (S.heaps * S.slack + 1))

set_option maxRecDepth 100000 in
set_option maxHeartbeats 4000000 in
theorem step_less {PA : World → Nat → (Nat → Prop) → Ti.St → Prop} {big : Prop} (F : Face PA big) (W : World) (fl base : Nat) (foot : Nat → Prop) (S : Ti.St) (L : List Hb) (hA : FarmAt PA W fl base foot S L) (hL : 0 < L.length) (a b : Int) (a0 : -9223372036854775808 ≤ a) (a1 : a ≤ 9223372036854775807) :
    Calls Tryd.prog 15 #[.pointer (some ⟨fl, 0, none⟩), .agg #[.int .i64 1, .int .i64 a, .int .i64 b]] W fun e W' => e = .returned (.bool true) ∧ FarmLess PA W W' fl base foot S L.length := by
  have hfew := hA.few
  have hE0 : Ext none1 W (W.alloc (.cells #[.int .i64 1, .int .i64 a, .int .i64 b] 32)) := (Ext.refl _ _).alloc _
  have hA0 := hA.keep F hE0 (fun _ _ x => x) (fun x => x)
  have hob := heap_alloc_new W (.cells #[.int .i64 1, .int .i64 a, .int .i64 b] 32)
  obtain ⟨W0, HW0⟩ : ∃ W0, Hid (W.alloc (.cells #[.int .i64 1, .int .i64 a, .int .i64 b] 32) = W0) := ⟨_, rfl⟩
  rw [HW0.out] at hE0 hA0 hob
  obtain ⟨x, v, fp, b1, b2, b3, b4, b5, b6, b7⟩ := hA0.box
  have b3' := b3
  obtain ⟨hel, ⟨_, hz⟩ | ⟨g, cap, cur, rfl, hgb, hgh, hcap, hmx, hsz, htk⟩⟩ := b3
  · omega
  have hgl := lt_of_heap hgh
  have c0 := cell_of b1 0
  have c4 := cell_of b1 4
  have o0 := cell_of hob 0
  have o1 := cell_of hob 1
  simp at c0 c4 o0 o1
  have hltW : fl < W.heap.size := hA.flt _ hA.ffl
  have w0 : W.cell? ⟨fl, 0, none⟩ = some (.pointer (some ⟨x, 0, none⟩)) := by rw [← c0]; unfold World.cell?; simp only [hE0.block fl hltW (fun x => x)]
  have w4 : W.cell? ⟨fl, 4, none⟩ = some (.slice (some ⟨g, 0, none⟩) L.length cap) := by rw [← c4]; unfold World.cell?; simp only [hE0.block fl hltW (fun x => x)]
  have hL' : ¬ (L.length : Int) = 0 := by omega
  have hLb : ((L.length : Int) == 0) = false := beq_eq_false_iff_ne.2 hL'
  have hL'' : ¬ L.length = 0 := by omega
  obtain ⟨i, hi⟩ : ∃ i : Nat, pickI a L.length = (i : Int) := ⟨(pickI a L.length).toNat, by have := (pickI_bd a L.length (by omega)).1; omega⟩
  have hpi := pickI_bd a L.length (by omega)
  rw [hi] at hpi
  have hil : i < L.length := by omega
  obtain ⟨y, hy⟩ : ∃ y, L[i]? = some y := ⟨_, List.getElem?_eq_getElem hil⟩
  have Hpk : Hid (∀ w, Calls Tryd.prog 20 #[.int .i64 a, .int .i64 (L.length : Int)] w fun e w' => e = .returned (.int .i64 (i : Int)) ∧ w = w') := fun w => by rw [← hi]; exact pickK_any a L.length w a0 a1 (by omega) (by omega)
  have hcc : ∀ (w' : World) (bb o : Nat), Ext none1 W0 w' → bb < W0.heap.size → w'.cell? ⟨bb, o, none⟩ = W0.cell? ⟨bb, o, none⟩ := fun w' bb o hE hl => by
    unfold World.cell?
    simp only [hE.block bb hl (fun x => x)]
  have hl0 : fl < W0.heap.size := lt_of_heap b1
  have hl1 : W.heap.size < W0.heap.size := lt_of_heap hob
  have k1 : ∀ (w' : World) (o : Nat), Ext none1 W0 w' → w'.cell? ⟨fl, o, none⟩ = W0.cell? ⟨fl, o, none⟩ := fun w' o hE => hcc w' fl o hE hl0
  have k2 : ∀ (w' : World) (o : Nat), Ext none1 W0 w' → w'.cell? ⟨W.heap.size, o, none⟩ = W0.cell? ⟨W.heap.size, o, none⟩ := fun w' o hE => hcc w' _ o hE hl1
  have hfo := hA0.ok.free (i := i) (b := y.b) (by rw [List.getElem?_map, hy]; rfl)
  have Hd : Hid (∀ w, Ext none1 W0 w → Calls Tryd.prog 24 #[.pointer (some ⟨x, 0, none⟩), .int .i64 y.b.at_] w fun e w' => e = .returned (.int .i64 0) ∧ Ext fp W0 w' ∧ XPost PA w w' x fp (S.freeAt y.b.at_).2) := fun w hE => by
    refine (F.free w x fp S y.b.at_ (F.keep b2 hE (fun _ _ x => x) (fun x => x)) hA0.ok.inv).mono ?_
    rintro e w' ⟨rfl, hX⟩
    refine ⟨by rw [hfo.1], ?_, hX⟩
    obtain ⟨_, _, e, _⟩ := hX
    exact (hE.mono (fun _ _ x => x.elim)).trans e
  have hge := encB_get L i y hy
  have hcur : ∀ j u, (encB L)[j]? = some u → W0.cell? ⟨g, j, none⟩ = some u := fun j u hu => by
    rw [← htk, List.getElem?_take] at hu
    split at hu
    · rw [cell_of hgh j]; simpa using hu
    · cases hu
  have g0 : W0.cell? ⟨g, i * 3, none⟩ = some (.int .i64 y.b.at_) := hcur _ _ hge.1
  have k3 : ∀ (w' : World) (bb o : Nat), Ext fp W0 w' → bb < W0.heap.size → ¬ fp bb → w'.cell? ⟨bb, o, none⟩ = W0.cell? ⟨bb, o, none⟩ := fun w' bb o hE hl hn => by
    unfold World.cell?
    simp only [hE.block bb hl hn]
  have hng : ¬ fp g := (b7 g rfl).2.1
  have k4 : ∀ (w' : World) (o : Nat), Ext fp W0 w' → w'.cell? ⟨fl, o, none⟩ = W0.cell? ⟨fl, o, none⟩ := fun w' o hE => k3 w' fl o hE hl0 b5
  have k5 : ∀ (w' : World) (o : Nat), Ext fp W0 w' → w'.cell? ⟨g, o, none⟩ = W0.cell? ⟨g, o, none⟩ := fun w' o hE => k3 w' g o hE hgl hng
  clear k3
  have HA0 : Hid (FarmAt PA W0 fl base foot S L) := hA0
  have HA : Hid (FarmAt PA W fl base foot S L) := hA
  have HE0 : Hid (Ext none1 W W0) := hE0
  clear hA hA0 hE0 hcc hi
  go_enter Tryd.func15, Tryd.ntmps15
  go_wp2_with fail
  rw [HW0.out]
  clear w0 w4
  go_region_held3 (fun w' => Ext none1 W0 w') (first | assumption | exact (Ext.refl _ _).drew)
    (first | (go_at_call 20; refine Calls.mono (Hpk.out _) ?_; rintro e w' ⟨rfl, rfl⟩))
  all_goals go_wp2_with fail
  go_region_held3 (fun w' => Ext fp W0 w') (first | assumption | exact ((Ext.refl _ _).drew).drew)
    (first | (go_at_call 24; refine Calls.mono (Hd.out _ ((Ext.refl _ _).drew).drew) ?_; rintro e w' ⟨rfl, hxx, hpp⟩))
  go_wp2_with (at_builtin; refine stand_at ?_)
  have hil2 : (L.take i).length = i := by simp; omega
  have hil3 : (L.drop (i + 1)).length = L.length - (i + 1) := by simp
  have hsz' := hxx.size
  have f4 := k4 _ 4 hxx
  rw [c4] at f4
  obtain ⟨v1, w1, hr1, ho1, hg1, hv1⟩ := run_appB 35 _ base (.slice none 0 0) [] (L.take i) (World.ownsRow_nil _ _ _ _) g 0 cap (fun j u hu => by
    rw [Nat.zero_add, k5 _ j hxx]
    refine hcur j u ?_
    rw [show encB L = encB (L.take i) ++ encB (L.drop i) by rw [← encB_append, List.take_append_drop]]
    have hj : j < (encB (L.take i)).length := by
      rcases Nat.lt_or_ge j (encB (L.take i)).length with h | h
      · exact h
      · rw [List.getElem?_eq_none h] at hu; cases hu
    rw [List.getElem?_append_left hj]; exact hu) (by simp; omega) (by omega)
  rw [hil2] at hr1
  simp only [List.nil_append] at ho1
  show wpList _ _ _ _ _ _
  refine wpList_appEq rfl (.tmp 46) (.tmp 52) 35 rfl _ _ v1 w1 rfl rfl hr1 ?_
  have hs1 := hg1.size
  have q4 : w1.cell? ⟨fl, 4, none⟩ = some (.slice (some ⟨g, 0, none⟩) L.length cap) := by
    rw [← f4]; exact hg1.cell_far _ (by show fl < _; omega) (by simp [Value.ownBlock])
  clear f4 k4 k1 k2
  have Hend : Hid (∀ v2 w2, w2.ownsRow base 40 3 v2 (L.take i ++ L.drop (i + 1)).length (encB (L.take i ++ L.drop (i + 1))) → w1.grownBy w2 v1.ownBlock → (v2.ownBlock = v1.ownBlock ∨ v2.ownBlock = some w1.heap.size) →
      ((v2 = .slice none 0 0 ∨ ∃ g n c, v2 = .slice (some ⟨g, 0, none⟩) n c) ∧ w2.cell? ⟨fl, 4, none⟩ = some (.slice (some ⟨g, 0, none⟩) L.length cap) ∧ w2.frozen? ⟨fl, 4, none⟩ = false) ∧ FarmLess PA W (w2.setCell ⟨fl, 4, none⟩ v2) fl base foot S L.length) := by
    intro v2 w2 ho2 hg2 hv2
    obtain ⟨fp', p1, p2, p3⟩ := hpp
    have hv1' : ∀ k, v1.ownBlock = some k → k = w'.heap.size := fun k hk => by
      rcases hv1 with e | e
      · rw [e] at hk; simp [Value.ownBlock] at hk
      · rw [e] at hk; exact (Option.some.inj hk).symm
    have hE12 : Ext none1 w' w2 := ⟨hg2.os.trans hg1.os, hg2.tape.trans hg1.tape, hg2.output.trans hg1.output, Nat.le_trans hg1.size hg2.size, fun k hk _ => (hg2.block k (Nat.lt_of_lt_of_le hk hg1.size) (fun e => by have := hv1' k e.symm; omega)).trans (hg1.block k hk (by simp [Value.ownBlock]))⟩
    have hc := hE12.keep (hxx.keep b1 b5) (fun x => x)
    have hsub : (L.take i ++ L.drop (i + 1)).Sublist L := by
      have h1 : (L.take i ++ L.drop (i + 1)).Sublist (L.take i ++ L.drop i) := List.Sublist.append_left (List.drop_sublist_drop_left _ (by omega)) _
      rwa [List.take_append_drop] at h1
    have hI := HA0.out.ok.inv
    obtain ⟨foot', q1, q2, q3⟩ := FarmAt.renew F HA0.out b1 b3' b4 b5 b6 b7 (by omega) p1 hxx (fun k hk => p3 k hk) (hE12.mono (fun _ _ x => x.elim)) ho2
      (fun k hk => .inr (by
        rcases hv2 with e | e
        · rw [e] at hk; have := hv1' k hk; omega
        · rw [e] at hk; have := Option.some.inj hk; have := hg1.size; omega))
      (fun y hy => .inl (hsub.subset hy))
      (fun k hk y hy e => by
        have := HA0.out.flt _ (HA0.out.rows y (hsub.subset hy)).2.1
        rcases hv2 with e' | e'
        · rw [e'] at hk; have := hv1' k hk; omega
        · rw [e'] at hk; have := Option.some.inj hk; have := hg1.size; omega)
      (HA0.out.dist.sublist hsub)
      (by rw [List.map_append, List.map_take, List.map_drop]; exact hfo.2.1) hfo.2.2.1 hfo.2.2.2.1 hfo.2.2.2.2
    refine ⟨⟨?_, ?_, frozen_of hc 4⟩, foot', _, _, (by rw [List.length_append, hil2, hil3]; omega), q1, (HE0.out.mono (fun _ _ x => x.elim)).trans q2, fun k hk => (q3 k hk).imp id (fun h => Nat.le_trans HE0.out.size h), hfo.2.2.1, hfo.2.2.2.1, hfo.2.2.2.2, fun hl => Ti.lean_free S hI.toInv0 hl _, fun _ c => .inl (Ti.tot_free S hI.toInv0 _ c)⟩
    · rcases ho2.2 with ⟨e, _⟩ | ⟨g2, cap2, cur2, e, _⟩
      · exact .inl e
      · exact .inr ⟨g2, _, cap2, e⟩
    · rw [cell_of hc 4]; rfl
  clear hfo b1 b2 b3' b4 b5 b6 b7 hgh hpp
  go_wp2_with (at_builtin; refine stand_at ?_)
  · obtain ⟨v2, w2, hr2, ho2, hg2, hv2⟩ := run_appB 35 w1 base v1 (L.take i) (L.drop (i + 1)) ho1 g 0 0 (fun j u hu => by
      rw [List.drop_eq_nil_of_le (by omega)] at hu
      cases hu) (by simp; omega) (by omega)
    rw [hil3] at hr2
    show wpList _ _ _ _ _ _
    refine wpList_appEq rfl (.tmp 55) (.tmp 62) 35 rfl _ _ v2 w2 rfl rfl hr2 ?_
    obtain ⟨⟨hsh, hc4, hf4⟩, hpost⟩ := Hend.out v2 w2 ho2 hg2 hv2
    have HP : Hid _ := hpost
    clear hr2 ho2 hg2 hv2 hpost q4 hr1 ho1 hg1 hv1 Hend
    rcases hsh with rfl | ⟨g2, n2, cap2, rfl⟩
    all_goals
      go_wp2
      go_ret
      exact ⟨rfl, HP.out⟩
  · obtain ⟨v2, w2, hr2, ho2, hg2, hv2⟩ := run_appB 35 w1 base v1 (L.take i) (L.drop (i + 1)) ho1 g ((i + 1) * 3) (cap - (i + 1)) (fun j u hu => by
      have := hcur _ _ (encB_drop L (i + 1) j u hu (by omega))
      rw [← k5 _ _ hxx] at this
      rw [← this]
      exact hg1.cell_far _ (by show g < _; omega) (by simp [Value.ownBlock])) (by simp; omega) (by omega)
    rw [hil3] at hr2
    show wpList _ _ _ _ _ _
    refine wpList_appEq rfl (.tmp 55) (.tmp 62) 35 rfl _ _ v2 w2 rfl rfl hr2 ?_
    obtain ⟨⟨hsh, hc4, hf4⟩, hpost⟩ := Hend.out v2 w2 ho2 hg2 hv2
    have HP : Hid _ := hpost
    clear hr2 ho2 hg2 hv2 hpost q4 hr1 ho1 hg1 hv1 Hend
    rcases hsh with rfl | ⟨g2, n2, cap2, rfl⟩
    all_goals
      go_wp2
      go_ret
      exact ⟨rfl, HP.out⟩

theorem step_free {PA : World → Nat → (Nat → Prop) → Ti.St → Prop} {big : Prop} (F : Face PA big) (W : World) (fl base : Nat) (foot : Nat → Prop) (S : Ti.St) (L : List Hb) (hA : FarmAt PA W fl base foot S L) (hL : 0 < L.length) (a b : Int) (a0 : -9223372036854775808 ≤ a) (a1 : a ≤ 9223372036854775807) :
    Calls Tryd.prog 15 #[.pointer (some ⟨fl, 0, none⟩), .agg #[.int .i64 1, .int .i64 a, .int .i64 b]] W fun e W' => e = .returned (.bool true) ∧ FarmPost PA W W' fl base foot S :=
  (step_less F W fl base foot S L hA hL a b a0 a1).mono (fun _ _ ⟨h, f, T, M, _, r⟩ => ⟨h, f, T, M, r⟩)
end Go.Proofs.YtbagfepdmmfegaaDoor

/- A BYTE IS STORED. -/
namespace Go.Proofs.YtbagfepdmmfegaaDoor
open Go.RowKit

theorem encB_set (L : List Hb) (j : Nat) (y z : Hb) (hy : L[j]? = some y) (h1 : z.b.at_ = y.b.at_) (h2 : z.b.size = y.b.size) (h3 : z.g = y.g) : encB (L.set j z) = encB L := by
  induction L generalizing j with
  | nil => cases hy
  | cons c t ih =>
    cases j with
    | zero =>
      obtain rfl : c = y := by simpa using hy
      simp [encB, h1, h2, h3]
    | succ j =>
      have := ih j (by simpa using hy)
      simp only [encB, List.set_cons_succ, List.flatMap_cons] at this ⊢
      rw [this]

theorem FarmAt.stored {PA : World → Nat → (Nat → Prop) → Ti.St → Prop} {big : Prop} (F : Face PA big) {W w' : World} {fl base : Nat} {foot : Nat → Prop} {S S' : Ti.St} {L : List Hb} (h : FarmAt PA W fl base foot S L) {x : Nat} {v : Value} {fp fp' : Nat → Prop}
    (b1 : W.heap[fl]? = some (.cells #[.pointer (some ⟨x, 0, none⟩), .int .i64 S.heaps, .int .i64 (S.sups.length : Nat), .int .i64 S.slack, v] 37 (0, 0))) (b3 : W.ownsRow base 40 3 v L.length (encB L)) (b4 : ∀ k, fp k → foot k) (b5 : ¬ fp fl) (b6 : ∀ y ∈ L, ¬ fp y.g)
    (b7 : ∀ g, v.ownBlock = some g → foot g ∧ ¬ fp g ∧ ∀ y ∈ L, y.g ≠ g)
    (hPA : PA w' x fp' S') (hE1 : Ext fp W w') (hn1 : ∀ k, fp' k → fp k ∨ (W.heap.size ≤ k ∧ k < w'.heap.size))
    {j : Nat} {y : Hb} (hy : L[j]? = some y) (i : Nat) (u : Int) (hok : Ti.FarmOk S' ((L.set j ⟨⟨y.b.at_, y.b.size, y.b.bytes.set i u⟩, y.g⟩).map Hb.b)) (hh : S'.heaps = S.heaps) (hs : S'.slack = S.slack) (hl : S'.sups.length = S.sups.length) :
    ∃ foot', FarmAt PA (w'.setCell ⟨y.g, i, none⟩ (.int .i64 u)) fl base foot' S' (L.set j ⟨⟨y.b.at_, y.b.size, y.b.bytes.set i u⟩, y.g⟩) ∧ Ext foot W (w'.setCell ⟨y.g, i, none⟩ (.int .i64 u)) ∧ ∀ k, foot' k → foot k ∨ W.heap.size ≤ k := by
  have hlt := lt_of_heap b1
  have z1 := hE1.size
  have hym := List.mem_of_getElem? hy
  obtain ⟨ry1, ry2, ry3⟩ := h.rows y hym
  have hyfl : y.g ≠ fl := by have := h.low; omega
  have e3 : Ext (one y.g) w' (w'.setCell ⟨y.g, i, none⟩ (.int .i64 u)) := (Ext.refl (one y.g) w').setCell ⟨y.g, i, none⟩ (.inl rfl) _
  have hsz : (w'.setCell ⟨y.g, i, none⟩ (.int .i64 u)).heap.size = w'.heap.size := by simp [World.setCell]
  have hEall : Ext foot W (w'.setCell ⟨y.g, i, none⟩ (.int .i64 u)) := (hE1.mono (fun k _ hk => b4 k hk)).trans' e3 (fun k _ e => by rw [show k = y.g from e]; exact ry2)
  have hyl := h.flt _ ry2
  have hfp0 : ∀ k, fp' k → ¬ one y.g k := fun k hk e => by
    have e : k = y.g := e
    rcases hn1 k hk with q | q
    · rw [e] at q; exact b6 y hym q
    · omega
  refine ⟨fun k => foot k ∨ (W.heap.size ≤ k ∧ k < w'.heap.size), ⟨⟨x, v, fp', ?_, F.keep hPA e3 hfp0 ?_, ?_, ?_, ?_, ?_, ?_⟩, ?_, .inl h.ffl, ?_, h.low, ?_, ?_, hok⟩, hEall, ?_⟩
  · rw [hh, hs, hl]; exact e3.keep (hE1.keep b1 b5) (fun e => hyfl (Eq.symm e))
  · intro e
    exact h.fpos (by rw [show 0 = y.g from e]; exact ry2)
  · rw [List.length_set, encB_set L j y ⟨⟨y.b.at_, y.b.size, y.b.bytes.set i u⟩, y.g⟩ hy rfl rfl rfl]
    exact ownsRow_ext (ownsRow_ext b3 hE1 (fun g hg => (b7 g hg).2.1)) e3 (fun g hg e => (b7 g hg).2.2 y hym (Eq.symm e))
  · intro k hk
    rcases hn1 k hk with q | q
    · exact .inl (b4 k q)
    · exact .inr q
  · intro hk
    rcases hn1 _ hk with q | q
    · exact b5 q
    · omega
  · intro z hz hk
    have hzm : ∃ z' ∈ L, z'.g = z.g := by
      rcases List.mem_or_eq_of_mem_set hz with q | q
      · exact ⟨z, q, rfl⟩
      · exact ⟨y, hym, by rw [q]⟩
    obtain ⟨z', q, e⟩ := hzm
    rw [← e] at hk
    rcases hn1 _ hk with p | p
    · exact b6 z' q p
    · have := h.flt _ (h.rows z' q).2.1; omega
  · intro g hg
    obtain ⟨q1, q2, q3⟩ := b7 g hg
    refine ⟨.inl q1, fun hk => ?_, fun z hz => ?_⟩
    · rcases hn1 _ hk with p | p
      · exact q2 p
      · have := h.flt _ q1; omega
    · rcases List.mem_or_eq_of_mem_set hz with q | q
      · exact q3 z q
      · rw [q]; exact q3 y hym
  · rintro k (hk | hk)
    · have := h.flt k hk; omega
    · omega
  · rintro (hk | hk)
    · exact h.fpos hk
    · omega
  · intro z hz
    have hjl : j < L.length := (List.getElem?_eq_some_iff.1 hy).1
    obtain ⟨k, hk⟩ := List.getElem?_of_mem hz
    rw [List.getElem?_set] at hk
    by_cases e : j = k
    · rw [if_pos e, if_pos (by omega)] at hk
      obtain rfl := Option.some.inj hk
      refine ⟨ry1, .inl ry2, ?_⟩
      rw [heap_set (hE1.keep ry3 (b6 y hym))]
      simp
    · rw [if_neg e] at hk
      have hzm := List.mem_of_getElem? hk
      obtain ⟨r1, r2, r3⟩ := h.rows z hzm
      have hzy : z.g ≠ y.g := by
        rcases Nat.lt_or_gt_of_ne e with q | q
        · have := List.pairwise_iff_getElem.1 h.dist j k hjl (List.getElem?_eq_some_iff.1 hk).1 q
          rw [(List.getElem?_eq_some_iff.1 hk).2, (List.getElem?_eq_some_iff.1 hy).2] at this
          exact fun e => this e.symm
        · have := List.pairwise_iff_getElem.1 h.dist k j (List.getElem?_eq_some_iff.1 hk).1 hjl q
          rwa [(List.getElem?_eq_some_iff.1 hk).2, (List.getElem?_eq_some_iff.1 hy).2] at this
      exact ⟨r1, .inl r2, e3.keep (hE1.keep r3 (b6 z hzm)) hzy⟩
  · have he : (L.set j ⟨⟨y.b.at_, y.b.size, y.b.bytes.set i u⟩, y.g⟩).map Hb.g = L.map Hb.g := by
      rw [List.map_set]
      apply List.ext_getElem?
      intro k
      rw [List.getElem?_set]
      by_cases e : j = k
      · subst e
        have hjl : j < (L.map Hb.g).length := by rw [List.length_map]; exact (List.getElem?_eq_some_iff.1 hy).1
        rw [if_pos rfl, if_pos hjl, List.getElem?_map, hy]; rfl
      · rw [if_neg e]
    have hd : (L.map Hb.g).Pairwise (· ≠ ·) := List.pairwise_map.2 h.dist
    rw [← he] at hd
    exact List.pairwise_map.1 hd
  · rintro k (hk | hk)
    · exact .inl hk
    · exact .inr hk.1

theorem wrap_bd (z : Int) : -9223372036854775808 ≤ wrap64 z ∧ wrap64 z ≤ 9223372036854775807 := by
  unfold wrap64; omega

set_option maxRecDepth 100000 in
set_option maxHeartbeats 4000000 in
theorem step_store {PA : World → Nat → (Nat → Prop) → Ti.St → Prop} {big : Prop} (F : Face PA big) (W : World) (fl base : Nat) (foot : Nat → Prop) (S : Ti.St) (L : List Hb) (hA : FarmAt PA W fl base foot S L) (hL : 0 < L.length) (a b : Int) (a0 : -9223372036854775808 ≤ a) (a1 : a ≤ 9223372036854775807) (c0 : -9223372036854775808 ≤ b) (c1 : b ≤ 9223372036854775807) :
    Calls Tryd.prog 15 #[.pointer (some ⟨fl, 0, none⟩), .agg #[.int .i64 2, .int .i64 a, .int .i64 b]] W fun e W' => e = .returned (.bool true) ∧ FarmPost PA W W' fl base foot S := by
  have hfew := hA.few
  have hE0 : Ext none1 W (W.alloc (.cells #[.int .i64 2, .int .i64 a, .int .i64 b] 32)) := (Ext.refl _ _).alloc _
  have hA0 := hA.keep F hE0 (fun _ _ x => x) (fun x => x)
  have hob := heap_alloc_new W (.cells #[.int .i64 2, .int .i64 a, .int .i64 b] 32)
  obtain ⟨W0, HW0⟩ : ∃ W0, Hid (W.alloc (.cells #[.int .i64 2, .int .i64 a, .int .i64 b] 32) = W0) := ⟨_, rfl⟩
  rw [HW0.out] at hE0 hA0 hob
  obtain ⟨x, v, fp, b1, b2, b3, b4, b5, b6, b7⟩ := hA0.box
  have b3' := b3
  obtain ⟨hel, ⟨_, hz⟩ | ⟨g, cap, cur, rfl, hgb, hgh, hcap, hmx, hsz, htk⟩⟩ := b3
  · omega
  have hgl := lt_of_heap hgh
  have d0 := cell_of b1 0
  have d4 := cell_of b1 4
  have o0 := cell_of hob 0
  have o1 := cell_of hob 1
  have o2 := cell_of hob 2
  simp at d0 d4 o0 o1 o2
  have hltW : fl < W.heap.size := hA.flt _ hA.ffl
  have w0 : W.cell? ⟨fl, 0, none⟩ = some (.pointer (some ⟨x, 0, none⟩)) := by rw [← d0]; unfold World.cell?; simp only [hE0.block fl hltW (fun x => x)]
  have w4 : W.cell? ⟨fl, 4, none⟩ = some (.slice (some ⟨g, 0, none⟩) L.length cap) := by rw [← d4]; unfold World.cell?; simp only [hE0.block fl hltW (fun x => x)]
  have hL' : ¬ (L.length : Int) = 0 := by omega
  have hLb : ((L.length : Int) == 0) = false := beq_eq_false_iff_ne.2 hL'
  have hL'' : ¬ L.length = 0 := by omega
  obtain ⟨j, hj⟩ : ∃ j : Nat, pickI a L.length = (j : Int) := ⟨(pickI a L.length).toNat, by have := (pickI_bd a L.length (by omega)).1; omega⟩
  have hpi := pickI_bd a L.length (by omega)
  rw [hj] at hpi
  have hjl : j < L.length := by omega
  have hjl' : (j : Int) < (L.length : Int) := by omega
  obtain ⟨y, hy⟩ : ∃ y, L[j]? = some y := ⟨_, List.getElem?_eq_getElem hjl⟩
  have hym := List.mem_of_getElem? hy
  have hw := Ti.within_of S hA.ok.inv.toInv0 (hA.ok.mem (List.mem_map.2 ⟨y, hym, rfl⟩))
  have hw1 : 1 ≤ y.b.size ∧ y.b.size ≤ 256 ∧ 0 ≤ y.b.at_ ∧ y.b.at_ + y.b.size ≤ 64 * S.sups.length := hw
  have h16 := hA.ok.inv.f16
  clear hw
  obtain ⟨i, hi⟩ : ∃ i : Nat, pickI b y.b.size = (i : Int) := ⟨(pickI b y.b.size).toNat, by have := (pickI_bd b y.b.size (by omega)).1; omega⟩
  have hpi2 := pickI_bd b y.b.size (by omega)
  rw [hi] at hpi2
  have hpv := pickI_bd (wrap64 (a + b)) 256 (by omega)
  have Hpk1 : Hid (∀ w, Calls Tryd.prog 20 #[.int .i64 a, .int .i64 (L.length : Int)] w fun e w' => e = .returned (.int .i64 (j : Int)) ∧ w = w') := fun w => by rw [← hj]; exact pickK_any a L.length w a0 a1 (by omega) (by omega)
  have Hpk2 : Hid (∀ w, Calls Tryd.prog 20 #[.int .i64 b, .int .i64 y.b.size] w fun e w' => e = .returned (.int .i64 (i : Int)) ∧ w = w') := fun w => by rw [← hi]; exact pickK_any b y.b.size w c0 c1 (by omega) (by omega)
  have Hpk3 : Hid (∀ w, Calls Tryd.prog 20 #[.int .i64 (wrap64 (a + b)), .int .i64 256] w fun e w' => e = .returned (.int .i64 (pickI (wrap64 (a + b)) 256)) ∧ w = w') := fun w => pickK_any _ 256 w (wrap_bd _).1 (wrap_bd _).2 (by omega) (by omega)
  generalize pickI (wrap64 (a + b)) 256 = u at *
  have hcc : ∀ (w' : World) (bb o : Nat), Ext none1 W0 w' → bb < W0.heap.size → w'.cell? ⟨bb, o, none⟩ = W0.cell? ⟨bb, o, none⟩ := fun w' bb o hE hl => by
    unfold World.cell?
    simp only [hE.block bb hl (fun x => x)]
  have hl0 : fl < W0.heap.size := lt_of_heap b1
  have hl1 : W.heap.size < W0.heap.size := lt_of_heap hob
  have k1 : ∀ (w' : World) (o : Nat), Ext none1 W0 w' → w'.cell? ⟨fl, o, none⟩ = W0.cell? ⟨fl, o, none⟩ := fun w' o hE => hcc w' fl o hE hl0
  have k2 : ∀ (w' : World) (o : Nat), Ext none1 W0 w' → w'.cell? ⟨W.heap.size, o, none⟩ = W0.cell? ⟨W.heap.size, o, none⟩ := fun w' o hE => hcc w' _ o hE hl1
  have k3 : ∀ (w' : World) (o : Nat), Ext none1 W0 w' → w'.cell? ⟨g, o, none⟩ = W0.cell? ⟨g, o, none⟩ := fun w' o hE => hcc w' _ o hE hgl
  have hge := encB_get L j y hy
  have hcur : ∀ j u, (encB L)[j]? = some u → W0.cell? ⟨g, j, none⟩ = some u := fun j u hu => by
    rw [← htk, List.getElem?_take] at hu
    split at hu
    · rw [cell_of hgh j]; simpa using hu
    · cases hu
  have g0 : W0.cell? ⟨g, j * 3, none⟩ = some (.int .i64 y.b.at_) := hcur _ _ hge.1
  have g1 : W0.cell? ⟨g, j * 3 + 1, none⟩ = some (.int .i64 y.b.size) := hcur _ _ hge.2.1
  have g2 : W0.cell? ⟨g, j * 3 + 2, none⟩ = some (.slice (some ⟨y.g, 0, none⟩) y.b.size.toNat y.b.size.toNat) := hcur _ _ hge.2.2
  have hfo := hA0.ok.store (j := j) (b := y.b) (by rw [List.getElem?_map, hy]; rfl) i (by omega) u hpv.1 (by omega)
  have hE2 : Ext none1 W0 (W0.alloc (.cells #[.int .i64 y.b.at_, .int .i64 y.b.size, .slice (some ⟨y.g, 0, none⟩) y.b.size.toNat y.b.size.toNat] 40)).drew := ((Ext.refl _ _).alloc _).drew
  have hbx : (W0.alloc (.cells #[.int .i64 y.b.at_, .int .i64 y.b.size, .slice (some ⟨y.g, 0, none⟩) y.b.size.toNat y.b.size.toNat] 40)).drew.heap[W0.heap.size]? = some (.cells #[.int .i64 y.b.at_, .int .i64 y.b.size, .slice (some ⟨y.g, 0, none⟩) y.b.size.toNat y.b.size.toNat] 40 (0, 0)) := heap_alloc_new W0 _
  have HE2 : Hid _ := hE2
  have Hbx : Hid _ := hbx
  have HA0 : Hid (FarmAt PA W0 fl base foot S L) := hA0
  have HE0 : Hid (Ext none1 W W0) := hE0
  have Hob : Hid _ := hob
  have Hb1 : Hid _ := b1
  have Hfo : Hid _ := hfo
  have hfltW := hA.flt
  clear hA hA0 hE0 hcc hi hj hcur hge hgh hE2 hbx hfo
  go_enter Tryd.func15, Tryd.ntmps15
  go_wp2_with fail
  rw [HW0.out]
  clear w0 w4 HW0
  go_region_held3 (fun w' => Ext none1 W0 w') (first | assumption | exact (Ext.refl _ _).drew | exact ((Ext.refl _ _).alloc _).drew | exact (Ext.drew (Ext.refl _ _)).alloc _ | exact Ext.alloc (by assumption) _)
    (first | (go_at_call 20; refine Calls.mono (Hpk1.out _) ?_; rintro e w' ⟨rfl, rfl⟩))
  all_goals
    clear k1 k2 k3 g0 g1 g2 d0 d4 o0 o1 o2
    have hE2 := HE2.out
    have hbx := Hbx.out
    clear HE2 Hbx
    generalize (W0.alloc (.cells #[.int .i64 y.b.at_, .int .i64 y.b.size, .slice (some ⟨y.g, 0, none⟩) y.b.size.toNat y.b.size.toNat] 40)).drew = W2 at *
    have hA2 := HA0.out.keep F hE2 (fun _ _ x => x) (fun x => x)
    have hb2 := hE2.keep Hb1.out (fun x => x)
    have ho2 := hE2.keep Hob.out (fun x => x)
    have hsz2 := hE2.size
    have hry := hA2.rows y hym
    have hnf : ∀ k, W.heap.size ≤ k → ¬ fp k := fun k hk h => by have := hfltW k (b4 k h); omega
    have y1 := cell_of hb2 0
    have o1 := cell_of ho2 1
    have o2 := cell_of ho2 2
    have x0 := cell_of hbx 0
    have x1 := cell_of hbx 1
    have x2 := cell_of hbx 2
    simp at y1 o1 o2 x0 x1 x2
    have hwr : IntKind.i64.wrap (y.b.at_ + (i : Int)) = y.b.at_ + (i : Int) := by rw [IntKind.wrap_i64]; omega
    have hlf := lt_of_heap hb2
    have hlx := lt_of_heap hbx
    have hcc : ∀ (w' : World) (bb o : Nat), Ext fp W2 w' → bb < W2.heap.size → ¬ fp bb → w'.cell? ⟨bb, o, none⟩ = W2.cell? ⟨bb, o, none⟩ := fun w' bb o hE hl hn => by
      unfold World.cell?
      simp only [hE.block bb hl hn]
    have k1 : ∀ (w' : World) (o : Nat), Ext fp W2 w' → w'.cell? ⟨fl, o, none⟩ = W2.cell? ⟨fl, o, none⟩ := fun w' o hE => hcc w' fl o hE hlf b5
    have k2 : ∀ (w' : World) (o : Nat), Ext fp W2 w' → w'.cell? ⟨W0.heap.size, o, none⟩ = W2.cell? ⟨W0.heap.size, o, none⟩ := fun w' o hE => hcc w' _ o hE hlx (fun h => by have := HA0.out.flt _ (b4 _ h); omega)
    have Hd : Hid (∀ w, Ext none1 W2 w → Calls Tryd.prog 23 #[.pointer (some ⟨x, 0, none⟩), .int .i64 (y.b.at_ + (i : Int)), .int .i64 u] w fun e w' => e = .returned (.int .i64 0) ∧ Ext fp W2 w' ∧ XPost PA w w' x fp (S.store (y.b.at_ + (i : Int)) u).2) := fun w hE => by
      refine (F.store w x fp S (y.b.at_ + (i : Int)) u (F.keep b2 (hE2.trans hE) (fun _ _ x => x) (fun x => x)) HA0.out.ok.inv (by omega) (by omega)).mono ?_
      rintro e w' ⟨rfl, hX⟩
      refine ⟨by rw [Hfo.out.1], ?_, hX⟩
      obtain ⟨_, _, e, _⟩ := hX
      exact (hE.mono (fun _ _ x => x.elim)).trans e
    clear hcc
    go_wp2_with fail
    refine Calls.mono (Hpk2.out _) ?_
    rintro e w' ⟨rfl, rfl⟩
    go_wp2_with fail
    refine Calls.mono (Hpk3.out _) ?_
    rintro e w' ⟨rfl, rfl⟩
    go_wp2_with fail
    go_region_held3 (fun w' => Ext fp W2 w') (first | assumption | exact (Ext.refl _ _).drew)
      (first | (go_at_call 23; refine Calls.mono (Hd.out _ (Ext.refl _ _).drew) ?_; rintro e w' ⟨rfl, hxx, hpp⟩))
    have x2' := k2 w' 2 hxx
    rw [x2] at x2'
    obtain ⟨ry1, ry2, ry3⟩ := hry
    have hyb := hxx.keep ry3 (b6 y hym)
    have hlen : y.b.bytes.length = y.b.size.toNat := HA0.out.ok.len y.b (List.mem_map.2 ⟨y, hym, rfl⟩)
    have hib : i < y.b.bytes.length := by omega
    obtain ⟨z, hz⟩ : ∃ z, w'.cell? ⟨y.g, i, none⟩ = some (.int .i64 z) := ⟨y.b.bytes[i], by rw [cell_of hyb i]; simp [hib]⟩
    have hzf := frozen_of hyb i
    have hisz : (i : Int) < (y.b.size.toNat : Int) := by omega
    have hisz2 : i < y.b.size.toNat := by omega
    have HP : Hid (FarmPost PA W (w'.setCell ⟨y.g, i, none⟩ (.int .i64 u)) fl base foot S) := by
      obtain ⟨fp', p1, p2, p3⟩ := hpp
      obtain ⟨f1, f2, f3⟩ := Hfo.out
      have e1 : (S.store (y.b.at_ + (i : Int)) u).2.heaps = S.heaps := by rw [f3]
      have e2 : (S.store (y.b.at_ + (i : Int)) u).2.slack = S.slack := by rw [f3]
      have e3 : (S.store (y.b.at_ + (i : Int)) u).2.sups.length = S.sups.length := by rw [f3]
      obtain ⟨foot', q1, q2, q3⟩ := FarmAt.stored F hA2 hb2 (ownsRow_ext b3' hE2 (fun _ _ x => x)) b4 b5 b6 b7 p1 hxx (fun k hk => p3 k hk) hy i u (by rw [List.map_set]; exact f2) e1 e2 e3
      have hEW2 := HE0.out.trans hE2
      exact ⟨foot', _, _, q1, (hEW2.mono (fun _ _ x => x.elim)).trans q2, fun k hk => (q3 k hk).imp id (fun h => Nat.le_trans hEW2.size h), e1, e2, e3, fun hl => Ti.lean_store S hl _ _, fun _ c => .inl (by rw [Ti.tot_store]; exact Int.le_refl _)⟩
    clear hpp hyb ry3 k1 k2 x0 x1 x2 y1 o1 o2 Hd Hpk1 Hpk2 Hpk3 hbx hb2 ho2
    go_wp2
    go_ret
    exact ⟨rfl, HP.out⟩
end Go.Proofs.YtbagfepdmmfegaaDoor
