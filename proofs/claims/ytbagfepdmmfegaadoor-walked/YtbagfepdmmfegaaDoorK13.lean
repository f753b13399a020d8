import Derived.Test.YtbagfepdmmfegaaDoorK12
import Derived.BigQuiet
import Derived.Sort.QuietIn
set_option linter.unusedVariables false
set_option linter.unusedSimpArgs false
namespace Go.Proofs.YtbagfepdmmfegaaDoor
open Go.RowKit Go.Shelf

set_option maxRecDepth 100000 in
set_option maxHeartbeats 8000000 in
theorem releaseSlot_any (w : World) (m bf bz : Nat) (S : Ti.St) (hP : PrAt w m bf bz S) (hne : m ≠ bf ∧ bf ≠ bz ∧ m ≠ bz) (hI : Ti.Inv S) (k : Nat) (hk : k < S.blocks.length) (hz : (Ti.bk S.blocks k).2 ≤ 32) :
    Calls Tryd.prog 60 #[.pointer (some ⟨m, 0, none⟩), .int .i64 (Ti.bk S.blocks k).1] w fun e w' =>
      e = .returned (.tuple #[]) ∧ PrAt w' m bf bz (((S.less k).give (S.sup ((Ti.bk S.blocks k).1 / 64).toNat).heap (S.sup ((Ti.bk S.blocks k).1 / 64).toNat).cls).sweep) ∧ Ext (one bf) w w' := by
  have h16 := hI.f16
  obtain ⟨o1, o2, o3, o4, o5, _⟩ := hI.ok _ (Ti.bk_mem hk)
  obtain ⟨his, hcl, hal⟩ := o5 hz
  obtain ⟨f, hfd⟩ : ∃ f : Nat, (Ti.bk S.blocks k).1 / 64 = (f : Int) := ⟨((Ti.bk S.blocks k).1 / 64).toNat, by omega⟩
  rw [hfd, Int.toNat_natCast] at his hcl
  rw [hfd, Int.toNat_natCast]
  have hfl : f < S.sups.length := by omega
  have hsup := hI.sup f his
  have hw := Ti.width_slots (S.sup f).cls
  rw [← hcl] at hal
  obtain ⟨n, hnd⟩ : ∃ n : Nat, (Ti.bk S.blocks k).1 % 64 = n * Ti.width (S.sup f).cls := by
    rcases hw with ⟨e, _⟩ | ⟨e, _⟩ | ⟨e, _⟩ <;> rw [e] at hal ⊢
    · exact ⟨((Ti.bk S.blocks k).1 % 64 / 8).toNat, by omega⟩
    · exact ⟨((Ti.bk S.blocks k).1 % 64 / 16).toNat, by omega⟩
    · exact ⟨((Ti.bk S.blocks k).1 % 64 / 32).toNat, by omega⟩
  have hn : (n : Int) < Ti.slots (S.sup f).cls := by
    rcases hw with ⟨e, e2⟩ | ⟨e, e2⟩ | ⟨e, e2⟩ <;> rw [e] at hnd <;> rw [e2] <;> omega
  have hls := fun (w1 : World) (h : PrAt w1 m bf bz S) => h.lessSlot ⟨hne.1, hne.2.1⟩ hI.sorted k hk hz f n (S.sup f).cls hfl ⟨his, rfl⟩ hn (by omega)
  have hgc := gone_cls S hI k hk f hfd
  have hI0 := Ti.inv0_less S hI.toInv0 k
  have hIg := Ti.inv0_give (S.less k) hI0 (S.sup f).heap (S.sup f).cls
  have hphd : ph S f = (S.sup f).heap := by unfold ph; rw [if_pos his]
  have hpcd : pc S f = (S.sup f).cls := by unfold pc; rw [if_pos his]
  have hsl : (S.less k).slack = S.slack := rfl
  have hslk1 := hI.s1
  have hslk4 := hI.s4
  have hemp : 0 < (S.sup f).heap ∧ (S.less k).tooMuch (S.sup f).heap (S.sup f).cls = true → ∃ e : Nat, e < (S.less k).sups.length ∧ (S.less k).emptiest (S.sup f).heap (S.sup f).cls = (e : Int) ∧ (S.less k).mine (S.sup f).heap (S.sup f).cls e = true := by
    intro hy
    have hpos : 0 < (S.less k).held (S.sup f).heap (S.sup f).cls := by
      have h1 := hy.2
      unfold Ti.St.tooMuch at h1
      simp at h1
      have := Ti.charged_nn (S.less k) (S.sup f).heap (S.sup f).cls (S.less k).sups.length
      have h2 := h1.2
      unfold Ti.St.charged at h2
      omega
    obtain ⟨e, he, hee, hm, _⟩ := Ti.emptiest_of (S.less k) hI0 _ _ hpos
    exact ⟨e, he, hee, hm⟩
  have Hls : Hid (∀ (w1 : World) (h : PrAt w1 m bf bz S), _) := hls
  have Hgc : Hid _ := hgc
  have Hemp : Hid _ := hemp
  have hgy := Ti.give_yes (S.less k) (S.sup f).heap (S.sup f).cls
  have hgn := Ti.give_no (S.less k) (S.sup f).heap (S.sup f).cls
  clear hls hgc hemp hal o5 hcl
  generalize (S.sup f).cls = c at *
  generalize (S.sup f).heap = h at *
  generalize (Ti.bk S.blocks k).1 = a at *
  obtain ⟨q0, q1, q2, q3, q4, q5, q6, q7, q8, q9, q10⟩ := hP.fc f hfl
  rw [hphd] at q1
  rw [hpcd] at q2
  have qn : w.cell? ⟨bf, f * 11 + 3 + n, none⟩ = some (.int .i64 (slotOf S f n)) := by
    obtain ⟨cc, p1, p2, p3⟩ := hP.fr
    rw [cell_of p1]; exact (p3 f hfl).2.2.2 n (by omega)
  have qf := hP.ff (f * 11 + 3 + n)
  have y2 := hP.c2
  have hf' : (f : Int) < S.sups.length := by omega
  have ha1 : a ≤ 1024 := by omega
  have hn8 : n < 8 := by omega
  have hn8' : (n : Int) < 8 := by omega
  have hPd : PrAt w.drew m bf bz S := hP.keep0 (Ext.refl _ _).drew
  clear q0 q3 q4 q5 q6 q7 q8 q9 q10 hphd hpcd
  go_enter Tryd.func60, Tryd.ntmps60
  go_wp2
  go_quiet (fail)
  go_wp2
  have hE0 : Ext none1 w (w.drewN nq) := Ext.of_below (below_drewN (Below.refl _ _) _)
  have hP0 := hP.keep0 hE0
  generalize w.drewN nq = w2 at *
  have qn2 : ∀ w', Ext none1 w2 w' → w'.cell? ⟨bf, f * 11 + 3 + n, none⟩ = some (.int .i64 (slotOf S f n)) := fun w' hE => by
    obtain ⟨cc, p1, p2, p3⟩ := (hP0.keep0 hE).fr
    rw [cell_of p1]; exact (p3 f hfl).2.2.2 n (by omega)
  have qn3 := qn2 _ (Ext.refl _ _).drew
  have qf3 := (hP0.keep0 (Ext.refl _ _).drew).ff (f * 11 + 3 + n)
  have Hfin : Hid (∀ w3 : World, Ext none1 w2 w3 → PrAt (w3.setCell ⟨bf, f * 11 + 3 + n, none⟩ (.int .i64 0)) m bf bz (S.less k) ∧ Ext (one bf) w (w3.setCell ⟨bf, f * 11 + 3 + n, none⟩ (.int .i64 0))) := fun w3 hE =>
    ⟨Hls.out _ (hP0.keep0 hE), Ext.setCell (X := one bf) (Ext.mono (Y := one bf) (hE0.trans hE) (fun _ _ x => x.elim)) ⟨bf, f * 11 + 3 + n, none⟩ (.inl rfl) _⟩
  have hc0 := hsup.2.1
  have hc2 := hsup.2.2.1
  have hrest : Hid (∀ (w3 : World) (K : Act → World → Prop), True) := fun _ _ => trivial
  clear hrest qn qf y2 qn2 Hls hPd q1 q2
  obtain ⟨r, hr⟩ : ∃ r : Int, a % 64 = r := ⟨_, rfl⟩
  rw [hr] at hnd
  have hr0 : 0 ≤ r ∧ r < 64 := by omega
  have hr1 := hr0.1
  have hr2 := hr0.2
  clear hn hr0
  rcases hw with ⟨hwn, _⟩ | ⟨hwn, _⟩ | ⟨hwn, _⟩
  · have hq1 : IntKind.i64.wrap ((a.tmod 64).tdiv 8) = (n : Int) := by
      rw [hwn] at hnd
      rw [IntKind.wrap_i64, Int.tmod_eq_emod_of_nonneg o3, hr, Int.tdiv_eq_ediv_of_nonneg hr1]; omega
    clear hnd hr1 hr2
    go_region_held3 (fun w' => Ext (one bf) w2 w') (first | exact (Ext.refl _ _).drew | assumption | exact Ext.drew (Ext.setCell (X := one bf) (Ext.refl _ _) ⟨bf, _, none⟩ (.inl rfl) _))
      (first | (go_at_call 51; refine (slotSize_any _ _ hc0 hc2).mono ?_; rintro e w' ⟨rfl, rfl⟩; rw [hwn]))
    clear hq1 hwn qn3 qf3
    have hX : Hid (PrAt (w2.setCell ⟨bf, f * 11 + 3 + n, none⟩ (.int .i64 0)).drew m bf bz (S.less k) ∧ Ext (one bf) w (w2.setCell ⟨bf, f * 11 + 3 + n, none⟩ (.int .i64 0)).drew) := ⟨(Hfin.out _ (Ext.refl _ _)).1.keep0 (Ext.refl _ _).drew, (Hfin.out _ (Ext.refl _ _)).2.drew⟩
    clear Hfin
    generalize (w2.setCell ⟨bf, f * 11 + 3 + n, none⟩ (.int .i64 0)).drew = w3 at *
    obtain ⟨hP3, hE3⟩ := hX.out
    clear hX hP hP0 hE0 hfd o3 o4 hr
    by_cases hh : h = 0
    · have hg : (S.less k).give h c = S.less k := hgn (by omega)
      have Hfe : Hid _ := freeEmpty_any w3 m bf bz (S.less k) c hP3 ⟨hne.1, hne.2.1⟩ hI0 (fun j hj => by have := Hgc.out j; rw [hg] at this; exact this hj)
      have Hg : Hid _ := hg
      clear hg hgn hgy Hgc Hemp hIg
      go_wp2_with fail
      refine Calls.mono Hfe.out ?_
      rintro e w9 ⟨rfl, hP9, hE9⟩
      go_wp2_with fail
      exact ⟨rfl, _, results_none rfl _ _ _, rfl, by rw [Hg.out]; exact hP9, hE3.trans hE9⟩
    · have hh0 : 0 < h := by omega
      have hhb : (h == 0) = false := beq_eq_false_iff_ne.2 hh
      have Ht : Hid _ := holdsTooMuch_any w3 m bf bz (S.less k) h c hP3 hI0 hc0 hc2 (by rw [hsl]; omega) (by rw [hsl]; omega)
      cases htm : (S.less k).tooMuch h c
      · have hg : (S.less k).give h c = S.less k := hgn (by rw [htm]; simp)
        rw [htm] at Ht
        have Hg : Hid _ := hg
        have HG : Hid (∀ j, (S.less k).gone j → ((S.less k).sup j).cls = c) := fun j hj => by have := Hgc.out j; rw [hg] at this; exact this hj
        clear hg hgn hgy Hgc Hemp hIg htm
        go_wp2_with fail
        refine Calls.mono Ht.out ?_
        rintro e w4 ⟨rfl, hE4⟩
        have Hfe : Hid _ := freeEmpty_any w4 m bf bz (S.less k) c (hP3.keep0 hE4) ⟨hne.1, hne.2.1⟩ hI0 HG.out
        go_wp2_with fail
        refine Calls.mono Hfe.out ?_
        rintro e w9 ⟨rfl, hP9, hE9⟩
        go_wp2_with fail
        exact ⟨rfl, _, results_none rfl _ _ _, rfl, by rw [Hg.out]; exact hP9, (hE3.trans (hE4.mono (fun _ _ x => x.elim))).trans hE9⟩
      · have hg := hgy ⟨hh0, htm⟩
        obtain ⟨e, he, hee, hmi⟩ := Hemp.out ⟨hh0, htm⟩
        rw [hee, Int.toNat_natCast] at hg
        rw [htm] at Ht
        have Hg : Hid _ := hg
        have HI : Hid (Ti.Inv0 ((S.less k).setSup e { (S.less k).sup e with heap := 0 })) := by show Ti.Inv0 _; rw [← hg]; exact hIg
        have HG : Hid (∀ j, ((S.less k).setSup e { (S.less k).sup e with heap := 0 }).gone j → (((S.less k).setSup e { (S.less k).sup e with heap := 0 }).sup j).cls = c) := fun j hj => by have := Hgc.out j; rw [hg] at this; exact this hj
        clear hg hgn hgy Hgc Hemp hIg htm
        go_wp2_with fail
        refine Calls.mono Ht.out ?_
        rintro e' w4 ⟨rfl, hE4⟩
        have Hgi : Hid _ := giveEmptiestAway_any w4 m bf bz (S.less k) h c (hP3.keep0 hE4) ⟨hne.1, hne.2.1⟩ hI0 e he hee hmi
        clear hee hmi
        go_wp2_with fail
        refine Calls.mono Hgi.out ?_
        rintro e' w5 ⟨rfl, hP5, hE5⟩
        have Hfe : Hid _ := freeEmpty_any w5 m bf bz _ c hP5 ⟨hne.1, hne.2.1⟩ HI.out HG.out
        go_wp2_with fail
        refine Calls.mono Hfe.out ?_
        rintro e' w9 ⟨rfl, hP9, hE9⟩
        go_wp2_with fail
        exact ⟨rfl, _, results_none rfl _ _ _, rfl, by rw [Hg.out]; exact hP9, ((hE3.trans (hE4.mono (fun _ _ x => x.elim))).trans hE5).trans hE9⟩

  · have hq1 : IntKind.i64.wrap ((a.tmod 64).tdiv 16) = (n : Int) := by
      rw [hwn] at hnd
      rw [IntKind.wrap_i64, Int.tmod_eq_emod_of_nonneg o3, hr, Int.tdiv_eq_ediv_of_nonneg hr1]; omega
    clear hnd hr1 hr2
    go_region_held3 (fun w' => Ext (one bf) w2 w') (first | exact (Ext.refl _ _).drew | assumption | exact Ext.drew (Ext.setCell (X := one bf) (Ext.refl _ _) ⟨bf, _, none⟩ (.inl rfl) _))
      (first | (go_at_call 51; refine (slotSize_any _ _ hc0 hc2).mono ?_; rintro e w' ⟨rfl, rfl⟩; rw [hwn]))
    clear hq1 hwn qn3 qf3
    have hX : Hid (PrAt (w2.setCell ⟨bf, f * 11 + 3 + n, none⟩ (.int .i64 0)).drew m bf bz (S.less k) ∧ Ext (one bf) w (w2.setCell ⟨bf, f * 11 + 3 + n, none⟩ (.int .i64 0)).drew) := ⟨(Hfin.out _ (Ext.refl _ _)).1.keep0 (Ext.refl _ _).drew, (Hfin.out _ (Ext.refl _ _)).2.drew⟩
    clear Hfin
    generalize (w2.setCell ⟨bf, f * 11 + 3 + n, none⟩ (.int .i64 0)).drew = w3 at *
    obtain ⟨hP3, hE3⟩ := hX.out
    clear hX hP hP0 hE0 hfd o3 o4 hr
    by_cases hh : h = 0
    · have hg : (S.less k).give h c = S.less k := hgn (by omega)
      have Hfe : Hid _ := freeEmpty_any w3 m bf bz (S.less k) c hP3 ⟨hne.1, hne.2.1⟩ hI0 (fun j hj => by have := Hgc.out j; rw [hg] at this; exact this hj)
      have Hg : Hid _ := hg
      clear hg hgn hgy Hgc Hemp hIg
      go_wp2_with fail
      refine Calls.mono Hfe.out ?_
      rintro e w9 ⟨rfl, hP9, hE9⟩
      go_wp2_with fail
      exact ⟨rfl, _, results_none rfl _ _ _, rfl, by rw [Hg.out]; exact hP9, hE3.trans hE9⟩
    · have hh0 : 0 < h := by omega
      have hhb : (h == 0) = false := beq_eq_false_iff_ne.2 hh
      have Ht : Hid _ := holdsTooMuch_any w3 m bf bz (S.less k) h c hP3 hI0 hc0 hc2 (by rw [hsl]; omega) (by rw [hsl]; omega)
      cases htm : (S.less k).tooMuch h c
      · have hg : (S.less k).give h c = S.less k := hgn (by rw [htm]; simp)
        rw [htm] at Ht
        have Hg : Hid _ := hg
        have HG : Hid (∀ j, (S.less k).gone j → ((S.less k).sup j).cls = c) := fun j hj => by have := Hgc.out j; rw [hg] at this; exact this hj
        clear hg hgn hgy Hgc Hemp hIg htm
        go_wp2_with fail
        refine Calls.mono Ht.out ?_
        rintro e w4 ⟨rfl, hE4⟩
        have Hfe : Hid _ := freeEmpty_any w4 m bf bz (S.less k) c (hP3.keep0 hE4) ⟨hne.1, hne.2.1⟩ hI0 HG.out
        go_wp2_with fail
        refine Calls.mono Hfe.out ?_
        rintro e w9 ⟨rfl, hP9, hE9⟩
        go_wp2_with fail
        exact ⟨rfl, _, results_none rfl _ _ _, rfl, by rw [Hg.out]; exact hP9, (hE3.trans (hE4.mono (fun _ _ x => x.elim))).trans hE9⟩
      · have hg := hgy ⟨hh0, htm⟩
        obtain ⟨e, he, hee, hmi⟩ := Hemp.out ⟨hh0, htm⟩
        rw [hee, Int.toNat_natCast] at hg
        rw [htm] at Ht
        have Hg : Hid _ := hg
        have HI : Hid (Ti.Inv0 ((S.less k).setSup e { (S.less k).sup e with heap := 0 })) := by show Ti.Inv0 _; rw [← hg]; exact hIg
        have HG : Hid (∀ j, ((S.less k).setSup e { (S.less k).sup e with heap := 0 }).gone j → (((S.less k).setSup e { (S.less k).sup e with heap := 0 }).sup j).cls = c) := fun j hj => by have := Hgc.out j; rw [hg] at this; exact this hj
        clear hg hgn hgy Hgc Hemp hIg htm
        go_wp2_with fail
        refine Calls.mono Ht.out ?_
        rintro e' w4 ⟨rfl, hE4⟩
        have Hgi : Hid _ := giveEmptiestAway_any w4 m bf bz (S.less k) h c (hP3.keep0 hE4) ⟨hne.1, hne.2.1⟩ hI0 e he hee hmi
        clear hee hmi
        go_wp2_with fail
        refine Calls.mono Hgi.out ?_
        rintro e' w5 ⟨rfl, hP5, hE5⟩
        have Hfe : Hid _ := freeEmpty_any w5 m bf bz _ c hP5 ⟨hne.1, hne.2.1⟩ HI.out HG.out
        go_wp2_with fail
        refine Calls.mono Hfe.out ?_
        rintro e' w9 ⟨rfl, hP9, hE9⟩
        go_wp2_with fail
        exact ⟨rfl, _, results_none rfl _ _ _, rfl, by rw [Hg.out]; exact hP9, ((hE3.trans (hE4.mono (fun _ _ x => x.elim))).trans hE5).trans hE9⟩

  · have hq1 : IntKind.i64.wrap ((a.tmod 64).tdiv 32) = (n : Int) := by
      rw [hwn] at hnd
      rw [IntKind.wrap_i64, Int.tmod_eq_emod_of_nonneg o3, hr, Int.tdiv_eq_ediv_of_nonneg hr1]; omega
    clear hnd hr1 hr2
    go_region_held3 (fun w' => Ext (one bf) w2 w') (first | exact (Ext.refl _ _).drew | assumption | exact Ext.drew (Ext.setCell (X := one bf) (Ext.refl _ _) ⟨bf, _, none⟩ (.inl rfl) _))
      (first | (go_at_call 51; refine (slotSize_any _ _ hc0 hc2).mono ?_; rintro e w' ⟨rfl, rfl⟩; rw [hwn]))
    clear hq1 hwn qn3 qf3
    have hX : Hid (PrAt (w2.setCell ⟨bf, f * 11 + 3 + n, none⟩ (.int .i64 0)).drew m bf bz (S.less k) ∧ Ext (one bf) w (w2.setCell ⟨bf, f * 11 + 3 + n, none⟩ (.int .i64 0)).drew) := ⟨(Hfin.out _ (Ext.refl _ _)).1.keep0 (Ext.refl _ _).drew, (Hfin.out _ (Ext.refl _ _)).2.drew⟩
    clear Hfin
    generalize (w2.setCell ⟨bf, f * 11 + 3 + n, none⟩ (.int .i64 0)).drew = w3 at *
    obtain ⟨hP3, hE3⟩ := hX.out
    clear hX hP hP0 hE0 hfd o3 o4 hr
    by_cases hh : h = 0
    · have hg : (S.less k).give h c = S.less k := hgn (by omega)
      have Hfe : Hid _ := freeEmpty_any w3 m bf bz (S.less k) c hP3 ⟨hne.1, hne.2.1⟩ hI0 (fun j hj => by have := Hgc.out j; rw [hg] at this; exact this hj)
      have Hg : Hid _ := hg
      clear hg hgn hgy Hgc Hemp hIg
      go_wp2_with fail
      refine Calls.mono Hfe.out ?_
      rintro e w9 ⟨rfl, hP9, hE9⟩
      go_wp2_with fail
      exact ⟨rfl, _, results_none rfl _ _ _, rfl, by rw [Hg.out]; exact hP9, hE3.trans hE9⟩
    · have hh0 : 0 < h := by omega
      have hhb : (h == 0) = false := beq_eq_false_iff_ne.2 hh
      have Ht : Hid _ := holdsTooMuch_any w3 m bf bz (S.less k) h c hP3 hI0 hc0 hc2 (by rw [hsl]; omega) (by rw [hsl]; omega)
      cases htm : (S.less k).tooMuch h c
      · have hg : (S.less k).give h c = S.less k := hgn (by rw [htm]; simp)
        rw [htm] at Ht
        have Hg : Hid _ := hg
        have HG : Hid (∀ j, (S.less k).gone j → ((S.less k).sup j).cls = c) := fun j hj => by have := Hgc.out j; rw [hg] at this; exact this hj
        clear hg hgn hgy Hgc Hemp hIg htm
        go_wp2_with fail
        refine Calls.mono Ht.out ?_
        rintro e w4 ⟨rfl, hE4⟩
        have Hfe : Hid _ := freeEmpty_any w4 m bf bz (S.less k) c (hP3.keep0 hE4) ⟨hne.1, hne.2.1⟩ hI0 HG.out
        go_wp2_with fail
        refine Calls.mono Hfe.out ?_
        rintro e w9 ⟨rfl, hP9, hE9⟩
        go_wp2_with fail
        exact ⟨rfl, _, results_none rfl _ _ _, rfl, by rw [Hg.out]; exact hP9, (hE3.trans (hE4.mono (fun _ _ x => x.elim))).trans hE9⟩
      · have hg := hgy ⟨hh0, htm⟩
        obtain ⟨e, he, hee, hmi⟩ := Hemp.out ⟨hh0, htm⟩
        rw [hee, Int.toNat_natCast] at hg
        rw [htm] at Ht
        have Hg : Hid _ := hg
        have HI : Hid (Ti.Inv0 ((S.less k).setSup e { (S.less k).sup e with heap := 0 })) := by show Ti.Inv0 _; rw [← hg]; exact hIg
        have HG : Hid (∀ j, ((S.less k).setSup e { (S.less k).sup e with heap := 0 }).gone j → (((S.less k).setSup e { (S.less k).sup e with heap := 0 }).sup j).cls = c) := fun j hj => by have := Hgc.out j; rw [hg] at this; exact this hj
        clear hg hgn hgy Hgc Hemp hIg htm
        go_wp2_with fail
        refine Calls.mono Ht.out ?_
        rintro e' w4 ⟨rfl, hE4⟩
        have Hgi : Hid _ := giveEmptiestAway_any w4 m bf bz (S.less k) h c (hP3.keep0 hE4) ⟨hne.1, hne.2.1⟩ hI0 e he hee hmi
        clear hee hmi
        go_wp2_with fail
        refine Calls.mono Hgi.out ?_
        rintro e' w5 ⟨rfl, hP5, hE5⟩
        have Hfe : Hid _ := freeEmpty_any w5 m bf bz _ c hP5 ⟨hne.1, hne.2.1⟩ HI.out HG.out
        go_wp2_with fail
        refine Calls.mono Hfe.out ?_
        rintro e' w9 ⟨rfl, hP9, hE9⟩
        go_wp2_with fail
        exact ⟨rfl, _, results_none rfl _ _ _, rfl, by rw [Hg.out]; exact hP9, ((hE3.trans (hE4.mono (fun _ _ x => x.elim))).trans hE5).trans hE9⟩

end Go.Proofs.YtbagfepdmmfegaaDoor

namespace Go.Proofs.YtbagfepdmmfegaaDoor
open Go.RowKit Go.Shelf

theorem setCells_heapV (v : Value) (b : Nat) (T : TypeId) (f : Nat × Nat) : ∀ (n o : Nat) (w : World) (c : Array Value), w.heap[b]? = some (.cells c T f) → ∃ c', (w.setCells b o (List.replicate n v)).heap[b]? = some (.cells c' T f) ∧ c'.size = c.size ∧ ∀ i, c'[i]? = if o ≤ i ∧ i < o + n ∧ i < c.size then some v else c[i]? := by
  intro n
  induction n with
  | zero => intro o w c h; exact ⟨c, h, rfl, fun i => by rw [if_neg (by omega)]⟩
  | succ n ih =>
    intro o w c h
    obtain ⟨c', h1, h2, h3⟩ := ih (o + 1) (w.setCell ⟨b, o, none⟩ v) _ (heap_set h o _)
    refine ⟨c', h1, by simpa using h2, fun i => ?_⟩
    rw [h3 i]
    simp only [Array.size_setIfInBounds]
    by_cases e : o = i
    · subst e
      rw [if_neg (by omega)]
      by_cases hi : o < c.size
      · rw [if_pos ⟨by omega, by omega, hi⟩]; simp [hi]
      · rw [if_neg (by omega), Array.getElem?_eq_none (by simp; omega), Array.getElem?_eq_none (by omega)]
    · rw [Array.getElem?_setIfInBounds_ne e]
      by_cases hi : o + 1 ≤ i ∧ i < o + 1 + n ∧ i < c.size
      · rw [if_pos hi, if_pos (by omega)]
      · rw [if_neg hi, if_neg (by omega)]

theorem infoFrame : (Tryd.prog.info? 100).map (fun i => (i.zero, i.size, i.bytes)) = some (some (.agg #[.int .i64 0, .int .i64 0, .int .i64 0, .int .i64 0, .int .i64 0, .int .i64 0, .int .i64 0, .int .i64 0, .int .i64 0, .int .i64 0, .int .i64 0]), 11, 88) := by kernel_rfl

theorem run_clearF (w : World) (b a n c : Nat) (ty : TypeId) (hn : 0 < n) (h1 : ∀ j, j < n * 11 → (w.cell? ⟨b, a + j, none⟩).isSome = true) (h2 : ∀ j, j < n * 11 → w.frozen? ⟨b, a + j, none⟩ = false) :
    (Builtin.clear_ #[92] ty #[.slice (some ⟨b, a, none⟩) n c]).run Tryd.prog w = .ok (.tuple #[]) (w.setCells b a (List.replicate (n * 11) (.int .i64 0))) := by
  obtain ⟨i0, hi, hz, _, _⟩ := info_parts infoFrame
  have hzc : (Builtin.zeroCells (Value.cells (.agg #[.int .i64 0, .int .i64 0, .int .i64 0, .int .i64 0, .int .i64 0, .int .i64 0, .int .i64 0, .int .i64 0, .int .i64 0, .int .i64 0, .int .i64 0])) n).toList = List.replicate (n * 11) (.int .i64 0) := by
    apply List.ext_getElem
    · simp [Builtin.zeroCells, Value.cells]
    · intro i q1 q2
      simp [Builtin.zeroCells, Value.cells]
      have : i % 11 < 11 := Nat.mod_lt _ (by omega)
      generalize i % 11 = j at *
      match j, this with
      | 0, _ => rfl
      | 1, _ => rfl
      | 2, _ => rfl
      | 3, _ => rfl
      | 4, _ => rfl
      | 5, _ => rfl
      | 6, _ => rfl
      | 7, _ => rfl
      | 8, _ => rfl
      | 9, _ => rfl
      | 10, _ => rfl
  have hr := run_storeCells_cells (P := Tryd.prog) b a (List.replicate (n * 11) (.int .i64 0)) 0 w (by simpa using h1) (by simpa using h2) (by intro v hv; simp at hv; rw [hv.2]; rfl)
  obtain ⟨n', rfl⟩ : ∃ n', n = n' + 1 := ⟨n - 1, by omega⟩
  simp [Builtin.clear_, run_underlying Tryd.underlying92, zeroValue, typeInfo, hi, hz, hzc, hr]

theorem CellsAt.zero {w : World} {bf n : Nat} {v : Nat → Nat → Int} (h : CellsAt w bf n v) (f cnt : Nat) : CellsAt (w.setCells bf (f * 11) (List.replicate (cnt * 11) (.int .i64 0))) bf n (fun g j => if f ≤ g ∧ g < f + cnt then 0 else v g j) := by
  obtain ⟨c, h1, h2, h3⟩ := h
  obtain ⟨c', p1, p2, p3⟩ := setCells_heapV (.int .i64 0) bf 100 (0, 0) (cnt * 11) (f * 11) w c h1
  refine ⟨c', p1, by rw [p2, h2], fun g hg j hj => ?_⟩
  rw [p3]
  show _ = some (Value.int .i64 (if f ≤ g ∧ g < f + cnt then 0 else v g j))
  by_cases e : f ≤ g ∧ g < f + cnt
  · rw [if_pos e, if_pos (by omega)]
  · rw [if_neg e, if_neg (by omega)]; exact h3 g hg j hj

theorem less_fv (S : Ti.St) (hI : Ti.Inv0 S) (k : Nat) (hk : k < S.blocks.length) (hz : 32 < (Ti.bk S.blocks k).2) (f cnt : Nat) (hf : (Ti.bk S.blocks k).1 = 64 * (f : Int)) (hcnt : ((Ti.bk S.blocks k).2 + 63) / 64 = (cnt : Int)) (g : Nat) (hg : g < S.sups.length) (j : Nat) (hj : j < 11) :
    (if f ≤ g ∧ g < f + cnt then 0 else fv S g j) = fv (S.less k) g j := by
  have hsz := sizeAt_less S hI.sorted k hk
  have hmb := Ti.bk_mem hk
  have hok := hI.ok _ hmb
  obtain ⟨q1, q2, q3⟩ := hok.2.2.2.2.2 hz
  have e0 : (S.less k).sup g = S.sup g := rfl
  unfold fv pk ph pc slotOf
  simp only [e0, hsz]
  by_cases hin : f ≤ g ∧ g < f + cnt
  · rw [if_pos hin]
    have his := q3 g (by omega) (by omega)
    have hcv : Ti.coverTo (S.less k).blocks g (S.less k).blocks.length = false := by
      cases hc : Ti.coverTo (S.less k).blocks g (S.less k).blocks.length with
      | false => rfl
      | true =>
        obtain ⟨x, hx, hxc⟩ := (cover_mem _ _).1 hc
        obtain ⟨hx1, hx2⟩ := (mem_less S hI.sorted k hk x).1 hx
        simp [Ti.covers] at hxc
        rcases Int.lt_or_gt_of_ne hx2 with hlt | hgt
        · have := hI.large x hx1 _ hmb hxc.1.1 hlt; omega
        · have := hI.large _ hmb x hx1 hz hgt; omega
    have hs0 : (if 64 * (g : Int) = (Ti.bk S.blocks k).1 then 0 else sizeAt S.blocks (64 * (g : Int))) = 0 := by
      split
      · rfl
      · rename_i hne
        apply sizeAt_none
        intro x hx hxe
        rcases Int.lt_or_gt_of_ne (show x.1 ≠ (Ti.bk S.blocks k).1 by rw [hxe]; exact hne) with hlt | hgt
        · omega
        · have := hI.large _ hmb x hx hz hgt; omega
    rw [hcv, his, hs0]
    simp
  · rw [if_neg hin]
    have hcov := cover_less S hI.sorted k hk g (by simp [Ti.covers]; intro _ _; omega)
    rw [hcov]
    by_cases e0 : j = 0
    · simp [e0]
    · by_cases e1 : j = 1
      · simp [e1]
      · by_cases e2 : j = 2
        · simp [e2]
        · simp only [if_neg e0, if_neg e1, if_neg e2]
          by_cases hcc : (S.sup g).is = true ∧ ((j - 3 : Nat) : Int) < Ti.slots (S.sup g).cls
          · rw [if_pos hcc, if_pos hcc, if_neg]
            have hb1 := Ti.slot_bounds (S.sup g).cls (j - 3) hcc.2
            omega
          · rw [if_neg hcc, if_neg hcc]
            by_cases hd : (S.sup g).is = false ∧ j - 3 = 0
            · rw [if_pos hd, if_pos hd, if_neg (by omega)]
            · rw [if_neg hd, if_neg hd]

set_option maxRecDepth 100000 in
set_option maxHeartbeats 8000000 in
theorem releaseFrames_any (w : World) (m bf bz : Nat) (S : Ti.St) (hP : PrAt w m bf bz S) (hne : m ≠ bf ∧ bf ≠ bz ∧ m ≠ bz) (hI : Ti.Inv0 S) (k : Nat) (hk : k < S.blocks.length) (hz : 32 < (Ti.bk S.blocks k).2) :
    Calls Tryd.prog 59 #[.pointer (some ⟨m, 0, none⟩), .agg #[.int .i64 (Ti.bk S.blocks k).1, .int .i64 (Ti.bk S.blocks k).2]] w fun e w' =>
      e = .returned (.tuple #[]) ∧ PrAt w' m bf bz (S.less k) ∧ Ext (one bf) w w' := by
  have h16 := hI.f16
  obtain ⟨o1, o2, o3, o4, _, o6⟩ := hI.ok _ (Ti.bk_mem hk)
  obtain ⟨p1, p2, _⟩ := o6 hz
  obtain ⟨f, hfd⟩ : ∃ f : Nat, (Ti.bk S.blocks k).1 / 64 = (f : Int) := ⟨((Ti.bk S.blocks k).1 / 64).toNat, by omega⟩
  obtain ⟨cnt, hcnt⟩ : ∃ cnt : Nat, ((Ti.bk S.blocks k).2 + 63) / 64 = (cnt : Int) := ⟨(((Ti.bk S.blocks k).2 + 63) / 64).toNat, by omega⟩
  have Hfv : Hid _ := less_fv S hI k hk hz f cnt (by omega) hcnt
  generalize (Ti.bk S.blocks k).1 = a at *
  generalize (Ti.bk S.blocks k).2 = z at *
  have hPa : ∀ o : Obj, PrAt (w.alloc o) m bf bz S := fun o => hP.keep0 ((Ext.refl _ _).alloc _)
  have hml := lt_of_heap hP.hd
  have hff : f + cnt ≤ S.sups.length := by omega
  have hcl : ∀ w1 : World, PrAt w1 m bf bz S → ∀ cp, (Builtin.clear_ #[92] 0 #[.slice (some ⟨bf, f * 11, none⟩) cnt cp]).run Tryd.prog w1 = .ok (.tuple #[]) (w1.setCells bf (f * 11) (List.replicate (cnt * 11) (.int .i64 0))) := fun w1 h1 cp =>
    run_clearF w1 bf (f * 11) cnt cp 0 (by omega) (fun j hj => by
      have := ((FrAt.cells h1.fr).cell (f + j / 11) (by omega) (j % 11) (Nat.mod_lt _ (by omega))).1
      rw [show (f + j / 11) * 11 + j % 11 = f * 11 + j by omega] at this
      rw [this]; rfl) (fun j _ => h1.ff _)
  have Hfin : Hid (∀ w1 : World, PrAt w1 m bf bz S → PrAt (w1.setCells bf (f * 11) (List.replicate (cnt * 11) (.int .i64 0))) m bf bz (S.less k)) := fun w1 h1 => by
    refine ⟨?_, ((FrAt.cells h1.fr).zero f cnt).fr (S := S.less k) _ Hfv.out, ?_⟩
    · rw [setCells_heap_ne _ _ hne.1]; exact h1.hd
    · obtain ⟨cc, q1, q2, q3⟩ := h1.bytes
      exact ⟨cc, (setCells_heap_ne _ _ hne.2.1.symm _ _ _).trans q1, q2, q3⟩
  have hw0 : (w.alloc (.cells #[.int .i64 a, .int .i64 z] 102)).heap[w.heap.size]? = some _ := heap_alloc_new _ _
  have hs0 : (w.alloc (.cells #[.int .i64 a, .int .i64 z] 102)).heap.size = w.heap.size + 1 := by simp
  have hP1 := hPa (.cells #[.int .i64 a, .int .i64 z] 102)
  have hE1 : Ext (one bf) w (w.alloc (.cells #[.int .i64 a, .int .i64 z] 102)) := (Ext.refl _ _).alloc _
  obtain ⟨fc, hfc⟩ : ∃ fc, fc = f + cnt := ⟨_, rfl⟩
  have hw1 : IntKind.i64.wrap ((f : Int) + (cnt : Int)) = (fc : Int) := by rw [IntKind.wrap_i64]; omega
  have hw2 : (fc : Int) ≤ (S.sups.length : Int) := by omega
  have hw2' : fc ≤ S.sups.length := by omega
  have hw3 : f ≤ fc := by omega
  have hw4 : fc - f = cnt := by omega
  have hw5 : ¬ S.sups.length = f := by omega
  have hb1 : a ≤ 1024 := by omega
  clear hfc o4 p1 p2 o6
  go_enter Tryd.func59, Tryd.ntmps59
  go_wp2
  generalize (w.alloc (.cells #[.int .i64 a, .int .i64 z] 102)) = w1 at *
  have y2 := hP1.c2
  have z0 := cell_of hw0 0
  have z1 := cell_of hw0 1
  simp at z0 z1
  have lm : m < w1.heap.size := by omega
  have lb : w.heap.size < w1.heap.size := by omega
  have hmb : ¬ w.heap.size = bf := by
    intro e
    obtain ⟨_, q, _⟩ := hP.fr
    have := lt_of_heap q
    omega
  have hc1 : ∀ (w' : World) (o : Nat), Ext (one bf) w1 w' → w'.cell? ⟨m, o, none⟩ = w1.cell? ⟨m, o, none⟩ := fun w' o hE => by
    show World.cell? _ _ = World.cell? _ _
    unfold World.cell?
    simp only [hE.block m lm (fun h => hne.1 h)]
  have hc2 : ∀ (w' : World) (o : Nat), Ext (one bf) w1 w' → w'.cell? ⟨w.heap.size, o, none⟩ = w1.cell? ⟨w.heap.size, o, none⟩ := fun w' o hE => by
    show World.cell? _ _ = World.cell? _ _
    unfold World.cell?
    simp only [hE.block w.heap.size lb (fun h => hmb h)]
  have hcld := hcl w1.drew (hP1.keep0 (Ext.refl _ _).drew) (S.sups.length - f)
  have hXd : Ext (one bf) w1 (w1.drew.setCells bf (f * 11) (List.replicate (cnt * 11) (.int .i64 0))) := ext_setCells (X := one bf) bf rfl _ _ _ (Ext.refl _ _).drew
  clear hcl
  go_region_held3 (fun w' => Ext (one bf) w1 w') (first | assumption | exact (Ext.refl _ _).drew)
    (first | (go_at_call 77; refine (framesFor_any _ _ (by omega) (by omega)).mono ?_; rintro e w' ⟨rfl, rfl⟩; rw [hcnt]))
  go_wp2_with fail
  exact ⟨rfl, _, results_none rfl _ _ _, rfl, Hfin.out _ (hP1.keep0 (Ext.refl _ _).drew), hE1.trans hXd⟩
end Go.Proofs.YtbagfepdmmfegaaDoor

namespace Go.Proofs.YtbagfepdmmfegaaDoor
open Go.RowKit Go.Shelf
attribute [local go_sem] Oper.semAt_some

/-! ### the blocks, told -/
abbrev Bk (S : Ti.St) : Type := { b : Int × Int // b ∈ S.blocks }
def addrOf (S : Ti.St) (i m : Nat) : Int := (i : Int) * 64 + m * Ti.width (pc S i)
theorem sizeAt_in (bs : List (Int × Int)) (a : Int) (h : 0 < sizeAt bs a) : (a, sizeAt bs a) ∈ bs := by
  unfold sizeAt at h ⊢
  by_cases h0 : 0 ≤ Ti.atI bs a
  · rw [if_pos h0]
    obtain ⟨h1, h2⟩ := Ti.atI_at bs a h0
    have := Ti.bk_mem h1
    have e : (a, (Ti.bk bs (Ti.atI bs a).toNat).2) = Ti.bk bs (Ti.atI bs a).toNat := Prod.ext h2.symm rfl
    rw [e]; exact this
  · rw [if_neg h0] at h; omega
theorem slot_mem (S : Ti.St) (i m : Nat) (h : 0 < slotOf S i m) : (addrOf S i m, slotOf S i m) ∈ S.blocks := by
  unfold slotOf at h
  unfold addrOf slotOf pc
  by_cases h1 : (S.sup i).is = true ∧ (m : Int) < Ti.slots (S.sup i).cls
  · rw [if_pos h1] at h
    rw [if_pos h1, if_pos h1.1, Int.mul_comm (i : Int) 64]
    exact sizeAt_in _ _ h
  · rw [if_neg h1] at h
    rw [if_neg h1]
    by_cases h2 : (S.sup i).is = false ∧ m = 0
    · rw [if_pos h2] at h
      rw [if_pos h2, if_neg (by rw [h2.1]; simp), h2.2]
      have := sizeAt_in _ _ h
      simpa [Int.mul_comm] using this
    · rw [if_neg h2] at h; omega
theorem slot_big (S : Ti.St) (hI : Ti.Inv0 S) (i m : Nat) : 0 ≤ slotOf S i m ∧ slotOf S i m ≤ 256 := by
  have h : ∀ a, 0 ≤ sizeAt S.blocks a ∧ sizeAt S.blocks a ≤ 256 := fun a => by
    unfold sizeAt
    by_cases h0 : 0 ≤ Ti.atI S.blocks a
    · rw [if_pos h0]
      have := hI.ok _ (Ti.bk_mem (Ti.atI_at S.blocks a h0).1)
      exact ⟨by have := this.1; omega, this.2.1⟩
    · rw [if_neg h0]; omega
  unfold slotOf
  split
  · exact h _
  · split
    · exact h _
    · omega
/-- all blocks but X, l and rows of blocks lie as they lay -/
def isRow (o : Obj) : Prop := ∃ cur fr, o = .cells cur 102 fr
def StayO (X : Nat → Prop) (l : Nat) (A B : World) : Prop := (∀ k o, (¬ X k ∧ k ≠ l) → ¬ isRow o → A.heap[k]? = some o → B.heap[k]? = some o) ∧ A.heap.size ≤ B.heap.size
theorem StayO.refl (X : Nat → Prop) (l : Nat) (A : World) : StayO X l A A := ⟨fun _ _ _ _ h => h, Nat.le_refl _⟩
theorem StayO.trans {X : Nat → Prop} {l : Nat} {A B C : World} (h : StayO X l A B) (k : StayO X l B C) : StayO X l A C := ⟨fun i o hi hr ho => k.1 i o hi hr (h.1 i o hi hr ho), Nat.le_trans h.2 k.2⟩
theorem StayO.of_ext {X Y : Nat → Prop} {l : Nat} {A B : World} (h : Ext Y A B) (hK : ∀ k, Y k → X k ∨ k = l) : StayO X l A B :=
  ⟨fun _ _ hk _ ho => h.keep ho (fun y => (hK _ y).elim hk.1 hk.2), h.size⟩
theorem StayO.mono {X X' : Nat → Prop} {l l' : Nat} {A B : World} (h : StayO X l A B) (hk : ∀ k, X k ∨ k = l → X' k ∨ k = l') : StayO X' l' A B :=
  ⟨fun k o h' => h.1 k o ⟨fun x => (hk k (.inl x)).elim h'.1 h'.2, fun x => (hk k (.inr x)).elim h'.1 h'.2⟩, h.2⟩
theorem stayO_put (X : Nat → Prop) (W : World) (l : Nat) (o : Obj) : StayO X l W (W.putObj l o) := ⟨fun _ _ hk _ ho => (World.putObj_heap_other hk.2).trans ho, by simp⟩
theorem stayO_alloc (X : Nat → Prop) (l : Nat) (W : World) (o : Obj) : StayO X l W (W.alloc o) := StayO.of_ext ((Ext.refl none1 _).alloc o) (fun _ h => h.elim)
theorem PrAt.stayO {X : Nat → Prop} {l : Nat} {A B : World} {m bf bz : Nat} {S : Ti.St} (h : PrAt A m bf bz S) (hs : StayO X l A B) (h1 : ¬ X m ∧ m ≠ l) (h2 : ¬ X bf ∧ bf ≠ l) (h3 : ¬ X bz ∧ bz ≠ l) : PrAt B m bf bz S :=
  ⟨hs.1 m _ h1 (fun ⟨_, _, e⟩ => by simp at e) h.hd, let ⟨c, a, b⟩ := h.fr; ⟨c, hs.1 bf _ h2 (fun ⟨_, _, e⟩ => by simp at e) a, b⟩, let ⟨c, a, b⟩ := h.bytes; ⟨c, hs.1 bz _ h3 (fun ⟨_, _, e⟩ => by simp at e) a, b⟩⟩
theorem ownFrom_stayO {β : Type} {B : Nat} {X : Nat → Prop} {l : Nat} {A : World} (hB : A.heap.size ≤ B) : OwnFrom B (fun (_ : β) W => StayO X l A W) := fun _ W W' row hs hg hr =>
  ⟨fun k o hk hn ho => (hg.block k (lt_of_heap (hs.1 k o hk hn ho)) (fun e => by have := (hr k e.symm).1; have := lt_of_heap ho; omega)).trans (hs.1 k o hk hn ho), Nat.le_trans hs.2 hg.size⟩
def toldOf (S : Ti.St) (i : Nat) : Nat → List (Bk S)
  | 0 => []
  | k + 1 => if hm : 0 < slotOf S i k then toldOf S i k ++ [⟨_, slot_mem S i k hm⟩] else toldOf S i k

theorem toldOf_len (S : Ti.St) (i k : Nat) : (toldOf S i k).length ≤ k := by
  induction k with
  | zero => simp [toldOf]
  | succ k ih =>
    simp only [toldOf]
    split
    · simp; omega
    · omega

set_option maxRecDepth 100000 in
set_option maxHeartbeats 4000000 in
theorem blocksOf_J (n : Nat) (hn : 2 ≤ n) (X : Nat → Prop) (m bf bz bm bi : Nat) (S : Ti.St) (i : Nat) (hi : i < S.sups.length) (hI : Ti.Inv0 S) (w : World)
    (hX : ∀ k, X k → k < w.heap.size) (k1 : ¬ X bm) (k2 : ¬ X bi) (k4 : ¬ X m) (k5 : ¬ X bf) (k6 : ¬ X bz)
    (hbm : w.heap[bm]? = some (.cells #[.pointer (some ⟨m, 0, none⟩)] 69 (0, 0))) (hbi : w.heap[bi]? = some (.cells #[.int .i64 (i : Int)] 3 (0, 0)))
    (hP : PrAt w m bf bz S) :
    SeqJ Fence.wide n Tryd.prog 102 #[.pointer (some ⟨bm, 0, none⟩), .pointer (some ⟨bi, 0, none⟩)] (fun x : Bk S => #[Value.agg #[.int .i64 x.1.1, .int .i64 x.1.2]]) (fun pre _ => pre.length < 8) (fun l => StayO X l) (fun _ _ => True)
      (fun ys => ys = toldOf S i 8) (fun _ => True) w := by
  intro l J Jx W hl hlW hW hJ hJx _ hY h0
  have h1 : 1 ≤ n := by omega
  have h16 := hI.f16
  have hS0 : Stay (fun _ => True) w W := fun k o _ ho => (hW.block k (lt_of_heap ho)).trans ho
  have hws := hW.size
  have u1 := lt_of_heap hbm
  have u2 := lt_of_heap hbi
  have u4 := lt_of_heap hP.hd
  obtain ⟨_, u5, _⟩ := hP.fr
  have u5 := lt_of_heap u5
  obtain ⟨_, u6, _⟩ := hP.bytes
  have u6 := lt_of_heap u6
  have hbm' := hS0 _ _ trivial hbm
  have hbi' := hS0 _ _ trivial hbi
  have hP' := hP.stay hS0 trivial trivial trivial
  clear hS0 hbm hbi hP hW
  have x1 : W.cell? ⟨bm, 0, none⟩ = some (.pointer (some ⟨m, 0, none⟩)) := by rw [cell_of hbm']; rfl
  have x2 : W.cell? ⟨bi, 0, none⟩ = some (.int .i64 (i : Int)) := by rw [cell_of hbi']; rfl
  have z1 : bm < W.heap.size := by omega
  have z2 : bi < W.heap.size := by omega
  have z4 : m < W.heap.size := by omega
  have z5 : bf < W.heap.size := by omega
  have y2 := hP'.c2
  have hi' : (i : Int) < (S.sups.length : Int) := by omega
  obtain ⟨q0, q1, q2, q3, q4, q5, q6, q7, q8, q9, q10⟩ := hP'.fc i hi
  refine callsIn_of_wp Tryd.func102 rfl trivial ?_ rfl
  simp only [Tryd.ntmps102, List.size_toArray, List.length_cons, List.length_nil, Nat.reduceAdd, Nat.reduceSub, Array.replicate_succ, Array.replicate_zero, List.push_toArray, List.append_toArray, List.nil_append, List.cons_append]
  gi_wp2
  have hc1 : ∀ (w' : World) (o : Nat), Ext none1 W w' → w'.cell? ⟨bf, o, none⟩ = W.cell? ⟨bf, o, none⟩ := fun w' o h => h.below.cell (p := ⟨bf, o, none⟩) z5
  have hc2 : ∀ (w' : World) (o : Nat), Ext none1 W w' → w'.cell? ⟨m, o, none⟩ = W.cell? ⟨m, o, none⟩ := fun w' o h => h.below.cell (p := ⟨m, o, none⟩) z4
  have hc3 : ∀ (w' : World) (o : Nat), Ext none1 W w' → w'.cell? ⟨bm, o, none⟩ = W.cell? ⟨bm, o, none⟩ := fun w' o h => h.below.cell (p := ⟨bm, o, none⟩) z1
  have hc4 : ∀ (w' : World) (o : Nat), Ext none1 W w' → w'.cell? ⟨bi, o, none⟩ = W.cell? ⟨bi, o, none⟩ := fun w' o h => h.below.cell (p := ⟨bi, o, none⟩) z2
  refine wpIn_region_wideQ (fun w' => Ext none1 W w') (by kernel_rfl) (by kernel_rfl) (Ext.refl _ _).drew (fun hHeld => ?_)
  refine take_dst 0 8 (v := ?_) rfl (by kernel_rfl) (by kernel_rfl) (by kernel_rfl) rfl (fun _ _ _ h => h) (Or.inl ⟨by rfl, ?_⟩) (by assumption) ?_
  rotate_left
  · intro wx hSw
    first | (go_simp; done) | (go_simp; with_reducible rfl)
  simp only [Act.put, List.setIfInBounds_toArray, List.set_cons_zero, List.set_cons_succ]
  refine take_dst 1 9 (v := ?_) rfl (by kernel_rfl) (by kernel_rfl) (by kernel_rfl) rfl (fun _ _ _ h => h) (Or.inl ⟨by rfl, ?_⟩) (by assumption) ?_
  rotate_left
  · intro wx hSw
    first | (go_simp; done) | (go_simp; with_reducible rfl)
  simp only [Act.put, List.setIfInBounds_toArray, List.set_cons_zero, List.set_cons_succ]
  refine take_dst 2 10 (v := ?_) rfl (by kernel_rfl) (by kernel_rfl) (by kernel_rfl) rfl (fun _ _ _ h => h) (Or.inl ⟨by rfl, ?_⟩) (by assumption) ?_
  rotate_left
  · intro wx hSw
    first | (go_simp; done) | (go_simp; with_reducible rfl)
  simp only [Act.put, List.setIfInBounds_toArray, List.set_cons_zero, List.set_cons_succ]
  refine take_dst 3 11 (v := ?_) rfl (by kernel_rfl) (by kernel_rfl) (by kernel_rfl) rfl (fun _ _ _ h => h) (Or.inl ⟨by rfl, ?_⟩) (by assumption) ?_
  rotate_left
  · intro wx hSw
    first | (go_simp; done) | (go_simp; with_reducible rfl)
  simp only [Act.put, List.setIfInBounds_toArray, List.set_cons_zero, List.set_cons_succ]
  refine take_dst 4 12 (v := ?_) rfl (by kernel_rfl) (by kernel_rfl) (by kernel_rfl) rfl (fun _ _ _ h => h) (Or.inl ⟨by rfl, ?_⟩) (by assumption) ?_
  rotate_left
  · intro wx hSw
    first | (go_simp; done) | (go_simp; with_reducible rfl)
  simp only [Act.put, List.setIfInBounds_toArray, List.set_cons_zero, List.set_cons_succ]
  refine take_dst 5 13 (v := ?_) rfl (by kernel_rfl) (by kernel_rfl) (by kernel_rfl) rfl (fun _ _ _ h => h) (Or.inl ⟨by rfl, ?_⟩) (by assumption) ?_
  rotate_left
  · intro wx hSw
    first | (go_simp; done) | (go_simp; with_reducible rfl)
  simp only [Act.put, List.setIfInBounds_toArray, List.set_cons_zero, List.set_cons_succ]
  refine take_dst 6 14 (v := ?_) rfl (by kernel_rfl) (by kernel_rfl) (by kernel_rfl) rfl (fun _ _ _ h => h) (Or.inl ⟨by rfl, ?_⟩) (by assumption) ?_
  rotate_left
  · intro wx hSw
    first | (go_simp; done) | (go_simp; with_reducible rfl)
  simp only [Act.put, List.setIfInBounds_toArray, List.set_cons_zero, List.set_cons_succ]
  refine wpAnyH_ready (rs := [7]) (by kernel_rfl) (by simp) ?_
  refine AllReadyH.cons (o := { dst := some 4, op := Op.alloc 100, type := 0, pos := "tell.go:89", after := #[], guard := none }) rfl (fun K hK => ?_) ?_
  · go_simp
    refine hK.out _ _ (hHeld.alloc _) (fun hHeld => ?_)
    clear hK K
    try simp only [Act.put, List.setIfInBounds_toArray, List.set_cons_zero, List.set_cons_succ]
    refine wpAnyH_ready (rs := [8]) (by kernel_rfl) (by simp) ?_
    refine AllReadyH.cons (o := { dst := none, op := Op.store 100 (Operand.tmp 4) (Operand.tmp 14), type := 0, pos := "tell.go:89", after := #[{ on := 7, ground := Ground.data }, { on := 6, ground := Ground.data }, { on := 0, ground := Ground.phase }, { on := 1, ground := Ground.phase }, { on := 2, ground := Ground.phase }, { on := 3, ground := Ground.phase }, { on := 4, ground := Ground.phase }, { on := 5, ground := Ground.phase }, { on := 6, ground := Ground.phase }, { on := 7, ground := Ground.phase }], guard := none }) rfl (fun K hK => ?_) ?_
    · go_simp
      refine hK.out _ _ ((Ext.refl _ _).drew.alloc _) (fun hHeld => ?_)
      clear hK K
      try simp only [Act.put, List.setIfInBounds_toArray, List.set_cons_zero, List.set_cons_succ]
      refine wpAnyH_done (by kernel_rfl) ?_ _
      refine ⟨fun h => (by cases h), ?_⟩
      clear hHeld
      gi_wp2
      clear x1 x2 hc1 hc2 hc3 hc4 q0 q1 q2 q3 q4 q5 q6 q7 q8 q9 q10 y2
      have hfb : ((W.alloc (.cells #[.int .i64 (pk S i), .int .i64 (ph S i), .int .i64 (pc S i), .int .i64 (slotOf S i 0), .int .i64 (slotOf S i 1), .int .i64 (slotOf S i 2), .int .i64 (slotOf S i 3), .int .i64 (slotOf S i 4), .int .i64 (slotOf S i 5), .int .i64 (slotOf S i 6), .int .i64 (slotOf S i 7)] 100)).drew).heap[W.heap.size]? = some _ := heap_alloc_new W _
      have hEW : Ext none1 W ((W.alloc (.cells #[.int .i64 (pk S i), .int .i64 (ph S i), .int .i64 (pc S i), .int .i64 (slotOf S i 0), .int .i64 (slotOf S i 1), .int .i64 (slotOf S i 2), .int .i64 (slotOf S i 3), .int .i64 (slotOf S i 4), .int .i64 (slotOf S i 5), .int .i64 (slotOf S i 6), .int .i64 (slotOf S i 7)] 100)).drew) := ((Ext.refl _ _).alloc _).drew
      have hsW : ((W.alloc (.cells #[.int .i64 (pk S i), .int .i64 (ph S i), .int .i64 (pc S i), .int .i64 (slotOf S i 0), .int .i64 (slotOf S i 1), .int .i64 (slotOf S i 2), .int .i64 (slotOf S i 3), .int .i64 (slotOf S i 4), .int .i64 (slotOf S i 5), .int .i64 (slotOf S i 6), .int .i64 (slotOf S i 7)] 100)).drew).heap.size = W.heap.size + 1 := by simp
      generalize ((W.alloc (.cells #[.int .i64 (pk S i), .int .i64 (ph S i), .int .i64 (pc S i), .int .i64 (slotOf S i 0), .int .i64 (slotOf S i 1), .int .i64 (slotOf S i 2), .int .i64 (slotOf S i 3), .int .i64 (slotOf S i 4), .int .i64 (slotOf S i 5), .int .i64 (slotOf S i 6), .int .i64 (slotOf S i 7)] 100)).drew) = W1 at *
      have hJ1 : J [] W1 := own_ext hJ h0 hEW
      have hbi1 := hEW.keep hbi' (fun x => x)
      have hix := fun j hj w => index8 (slotOf S i) j hj w
      have hbig := fun j => slot_big S hI i j
      obtain ⟨pc0, pc2⟩ := pc_range S hI i
      gi_loopw [5, 6, 7, 17] (fun _ _ _ c wr => ∃ k : Nat, k ≤ 8 ∧ c = .int .i64 k ∧ J (toldOf S i k) wr ∧ StayO X l W1 wr)
        (fun _ _ _ c _ => 8 - (intOf c).toNat)
      case atStart => exact ⟨0, by omega, rfl, hJ1, StayO.refl _ _ _⟩
      case round =>
        obtain ⟨k, hk, rfl, hJs, hst⟩ := hrel
        have t1 := hst.1 W.heap.size _ ⟨fun hx => (by have := hX _ hx; omega), by omega⟩ (fun ⟨_, _, e⟩ => by simp at e) hfb
        have t2 := hst.1 bi _ ⟨k2, by omega⟩ (fun ⟨_, _, e⟩ => by simp at e) hbi1
        have y1 : wr.cell? ⟨W.heap.size, 2, none⟩ = some (.int .i64 (pc S i)) := by rw [cell_of t1]; rfl
        have y2 : wr.cell? ⟨bi, 0, none⟩ = some (.int .i64 (i : Int)) := by rw [cell_of t2]; rfl
        by_cases hlt : k < 8
        · have hik := fun w => hix k hlt w
          have Hmt : Hid (toldOf S i (k + 1) = if hm : 0 < slotOf S i k then toldOf S i k ++ [⟨_, slot_mem S i k hm⟩] else toldOf S i k) := rfl
          have hbk := hbig k
          have Hsm := slot_mem S i k
          have had : addrOf S i k = (i : Int) * 64 + k * Ti.width (pc S i) := rfl
          have hwd := Ti.width_slots (pc S i)
          clear hix hbig
          have hkw : 0 ≤ (k : Int) * Ti.width (pc S i) ∧ (k : Int) * Ti.width (pc S i) ≤ 256 := by
            rcases hwd with ⟨e, _⟩ | ⟨e, _⟩ | ⟨e, _⟩ <;> rw [e] <;> omega
          have hwp : IntKind.i64.wrap ((k : Int) * Ti.width (pc S i)) = (k : Int) * Ti.width (pc S i) := by rw [IntKind.wrap_i64]; omega
          have hwq : IntKind.i64.wrap ((i : Int) * 64 + (k : Int) * Ti.width (pc S i)) = addrOf S i k := by rw [IntKind.wrap_i64, had]; omega
          have hkw1 := hkw.1
          have hkw2 := hkw.2
          clear had hkw
          have l1 := lt_of_heap t1
          have l2 := lt_of_heap t2
          have hc1 : ∀ (w' : World) (o : Nat), Ext none1 wr w' → w'.cell? ⟨W.heap.size, o, none⟩ = wr.cell? ⟨W.heap.size, o, none⟩ := fun w' o h => h.below.cell (p := ⟨W.heap.size, o, none⟩) l1
          have hc2 : ∀ (w' : World) (o : Nat), Ext none1 wr w' → w'.cell? ⟨bi, o, none⟩ = wr.cell? ⟨bi, o, none⟩ := fun w' o h => h.below.cell (p := ⟨bi, o, none⟩) l2
          gi_wp2
          refine wpIn_region_wideQ (fun w' => Ext none1 wr w') (by kernel_rfl) (by kernel_rfl) (Ext.refl _ _).drew (fun hHeld => ?_)
          refine take_dst 0 21 (v := ?_) rfl (by kernel_rfl) (by kernel_rfl) (by kernel_rfl) rfl (fun _ _ _ h => h) (Or.inl ⟨by rfl, ?_⟩) (by assumption) ?_
          rotate_left
          · intro wx hSw
            first | (go_simp; done) | (go_simp; with_reducible rfl)
          simp only [Act.put, List.setIfInBounds_toArray, List.set_cons_zero, List.set_cons_succ]
          refine take_dst 1 22 (v := ?_) rfl (by kernel_rfl) (by kernel_rfl) (by kernel_rfl) rfl (fun _ _ _ h => h) (Or.inl ⟨by rfl, ?_⟩) (by assumption) ?_
          rotate_left
          · intro wx hSw
            first | (go_simp; done) | (go_simp; with_reducible rfl)
          simp only [Act.put, List.setIfInBounds_toArray, List.set_cons_zero, List.set_cons_succ]
          refine take_dst 2 23 (v := ?_) rfl (by kernel_rfl) (by kernel_rfl) (by kernel_rfl) rfl (fun _ _ _ h => h) (Or.inl ⟨by rfl, ?_⟩) (by assumption) ?_
          rotate_left
          · intro wx hSw
            first | (go_simp; done) | (go_simp; with_reducible rfl)
          simp only [Act.put, List.setIfInBounds_toArray, List.set_cons_zero, List.set_cons_succ]
          refine take_dst 3 24 (v := ?_) rfl (by kernel_rfl) (by kernel_rfl) (by kernel_rfl) rfl (fun _ _ _ h => h) (Or.inl ⟨by rfl, ?_⟩) (by assumption) ?_
          rotate_left
          · intro wx hSw
            first | (go_simp; done) | (go_simp; with_reducible rfl)
          simp only [Act.put, List.setIfInBounds_toArray, List.set_cons_zero, List.set_cons_succ]
          refine take_dst 4 25 (v := ?_) rfl (by kernel_rfl) (by kernel_rfl) (by kernel_rfl) rfl (fun _ _ _ h => h) (Or.inl ⟨by rfl, ?_⟩) (by assumption) ?_
          rotate_left
          · intro wx hSw
            first | (go_simp; done) | (go_simp; with_reducible rfl)
          simp only [Act.put, List.setIfInBounds_toArray, List.set_cons_zero, List.set_cons_succ]
          refine wpAnyH_ready (rs := [5]) (by kernel_rfl) (by simp) ?_
          refine AllReadyH.cons (o := { dst := some 26, op := Op.call { callee := Callee.value (Operand.func 51), args := #[Operand.tmp 25], argTypes := #[3] }, type := 3, pos := "tell.go:91", after := #[{ on := 4, ground := Ground.data }], guard := none }) rfl (fun K hK => ?_) ?_
          · go_simp
            refine (slotSize_any _ _ pc0 pc2).mono ?_
            rintro e w' ⟨rfl, rfl⟩
            refine hK.out _ _ hHeld (fun hHeld => ?_)
            clear hK K
            try simp only [Act.put, List.setIfInBounds_toArray, List.set_cons_zero, List.set_cons_succ]
            refine take_dst 6 27 (v := ?_) rfl (by kernel_rfl) (by kernel_rfl) (by kernel_rfl) rfl (fun _ _ _ h => h) (Or.inl ⟨by rfl, ?_⟩) (by assumption) ?_
            rotate_left
            · intro wx hSw
              first | (go_simp; done) | (go_simp; with_reducible rfl)
            simp only [Act.put, List.setIfInBounds_toArray, List.set_cons_zero, List.set_cons_succ]
            refine take_dst 7 28 (v := ?_) rfl (by kernel_rfl) (by kernel_rfl) (by kernel_rfl) rfl (fun _ _ _ h => h) (Or.inl ⟨by rfl, ?_⟩) (by assumption) ?_
            rotate_left
            · intro wx hSw
              first | (go_simp; done) | (go_simp; with_reducible rfl)
            simp only [Act.put, List.setIfInBounds_toArray, List.set_cons_zero, List.set_cons_succ]
            refine take_dst 8 7 (v := ?_) rfl (by kernel_rfl) (by kernel_rfl) (by kernel_rfl) rfl (fun _ _ _ h => h) (Or.inl ⟨by rfl, ?_⟩) (by assumption) ?_
            rotate_left
            · intro wx hSw
              first | (go_simp; done) | (go_simp; with_reducible rfl)
            simp only [Act.put, List.setIfInBounds_toArray, List.set_cons_zero, List.set_cons_succ]
            refine wpAnyH_done (by kernel_rfl) ?_ _
            refine ⟨fun h => (by cases h), ?_⟩
            have hEd : Ext none1 wr wr.drew := (Ext.refl _ _).drew
            have hJ2 := own_ext hJ hJs hEd
            have hst2 : StayO X l W1 wr.drew := hst.trans (StayO.of_ext hEd (fun _ x => x.elim))
            clear hc1 hc2 hHeld hwp hwq y1 y2
            by_cases hm : 0 < slotOf S i k
            · have Hmt' : Hid (toldOf S i (k + 1) = toldOf S i k ++ [⟨_, slot_mem S i k hm⟩]) := by show _ = _; rw [Hmt.out, dif_pos hm]
              obtain ⟨fn, tmps, assign, body, hy, hR⟩ := hY _ ⟨_, slot_mem S i k hm⟩ _ hJ2 (Nat.lt_of_le_of_lt (toldOf_len S i k) hlt)
              clear Hmt hY
              dsimp only [addrOf] at hy
              gi_wp2
              refine hR.mono ?_
              rintro e W3 (⟨rfl, hJ3, hk3⟩ | ⟨rfl, hJx3, _⟩)
              · gi_wp2
                go_roundw
                case rel => exact ⟨k + 1, by omega, by go_num, by rw [Hmt'.out]; exact hJ3, hst2.trans hk3⟩
                case measure => simp [intOf]; omega
              · gi_wp2
                refine bodyPost_ret (results_none rfl _ _ _) rfl ?_
                exact ⟨⟨_, rfl⟩, .inr ⟨_, trivial, hJx3⟩⟩
            · have Hmt' : Hid (toldOf S i (k + 1) = toldOf S i k) := by show _ = _; rw [Hmt.out, dif_neg hm]
              clear Hmt hY
              gi_wp2
              refine ⟨fun _ h => (by cases h), ?_⟩
              gi_wp2
              go_roundw
              case rel => exact ⟨k + 1, by omega, by go_num, by rw [Hmt'.out]; exact hJ2, hst2⟩
              case measure => simp [intOf]; omega
          exact AllReadyH.nil
        · obtain rfl : k = 8 := by omega
          gi_wp2
          go_end0
          exact ⟨⟨_, rfl⟩, .inl ⟨_, rfl, hJs⟩⟩
    exact AllReadyH.nil
  exact AllReadyH.nil
end Go.Proofs.YtbagfepdmmfegaaDoor

/- A RANGE OVER A FUNCTION whose loop variable lies in a box that each round makes. -/
namespace Go.Proofs.YtbagfepdmmfegaaDoor
open Go.RowKit Go.Shelf

theorem range_JA {α : Type} {F : Fence} {n : Nat} {P : Program} {g : Operand} {ps : Array Tmp} {assign body : Code} {Q : Exit → Act → World → Prop} {a : Act} {w : World}
    (hro : F.round = none) (h1 : 1 ≤ n) {gf : Nat} {lb : Array Value} (hg : a.eval g = .func (.func gf) #[] lb) (hFg : F.fn gf) (eg : ∀ args w, (callFunc gf args).run P w = .ok (.enter gf args) w)
    {encs : α → Array Value} {Ok : List α → α → Prop} {Kp : Nat → World → World → Prop} {Rd : List α → World → Prop} {S Sp : List α → Prop} (hseq : SeqJ F (n - 1) P gf lb encs Ok Kp Rd S Sp w)
    (hKt : ∀ {l : Nat} {A B C : World}, Kp l A B → Kp l B C → Kp l A C) (hKb : ∀ (W : World) (l : Nat) (o : Obj), w.heap.size ≤ l → Kp l W (W.putObj l o)) (hps : ∀ x, (encs x).size = ps.size)
    (I : List α → World → Prop) (Ix : Code → List α → World → Prop) (hI : OwnFrom w.heap.size I) (hIx : ∀ c, OwnFrom w.heap.size (Ix c)) (hRd : ∀ pre W, I pre W → Rd pre W) (h0 : I [] w) (ob : α → Obj) (hKa : ∀ (W : World) (l : Nat) (o : Obj), Kp l W (W.alloc o)) (a₁ : α → Nat → Act)
    (hassign : ∀ (l : Nat) (x : α) (W : World) (K : Act → World → Prop), K (a₁ x W.heap.size) (W.alloc (ob x)) →
      assign.wpIn (F.inRound l) (n - 1 - 1) P (Exit.then K (fun _ _ _ => False)) { tmps := (ps.zip (encs x)).foldl (fun t (p, v) => t.setIfInBounds p v) a.tmps, defers := [] } W)
    (hbody : ∀ (l : Nat) (pre : List α) (x : α) (W : World) (b : Nat), w.heap.size ≤ l → l < b → W.heap[b]? = some (ob x) → I pre W → Ok pre x → body.wpIn (F.inRound l) (n - 1 - 1) P (ownPostG w.heap.size (Kp l) I Ix (pre ++ [x]) W) (a₁ x b) W)
    (hdone : ∀ (D : Nat) (xs : List α) (W : World), w.heap.size ≤ D → S xs → I xs W → W.heap[D]? = some (.deferred (some [])) → Q .normal { a with defers := { target := .collected D, args := #[] } :: a.defers } W)
    (hstop : ∀ (D : Nat) (c : Code) (pre : List α) (W : World), w.heap.size ≤ D → Sp pre → Ix c pre W → W.heap[D]? = some (.deferred (some [])) → c.wpIn F n P Q { a with defers := { target := .collected D, args := #[] } :: a.defers } W) :
    (Code.rangeFunc g ps assign body).wpIn F n P Q a w := by
  refine wpIn_rangeFunc fun fn hfn => ?_
  rw [hro]
  -- the record of the loop, in a state, with a pending jump
  let R : LoopState → Option Code → Loop := fun st pe => ⟨st, pe, fn, a.tmps, ps, assign, body, w.heap.size⟩
  let W1 := (w.alloc (.deferred (some []))).alloc (.loop (R .ready none))
  have s1 : W1.heap.size = w.heap.size + 2 := by simp [W1]
  have rec1 : W1.heap[w.heap.size + 1]? = some (.loop (R .ready none)) := by
    have := heap_alloc_new (w.alloc (.deferred (some []))) (.loop (R .ready none)); rwa [World.size_alloc] at this
  have def1 : W1.heap[w.heap.size]? = some (.deferred (some [])) := (Below.heap_alloc _ _ _ (by simp)).trans (heap_alloc_new w _)
  have low : ∀ {X Y : World} {row : Option Nat}, (∀ r, row = some r → W1.heap.size ≤ r ∧ ∃ o : Obj, X.heap[r]? = some o ∧ o.isCells = false) → ∀ r, row = some r → w.heap.size ≤ r ∧ ∃ o : Obj, X.heap[r]? = some o ∧ o.isCells = false :=
    fun h r e => ⟨by have := (h r e).1; omega, (h r e).2⟩
  have far : ∀ {X : World} {row : Option Nat}, (∀ r, row = some r → W1.heap.size ≤ r ∧ ∃ o : Obj, X.heap[r]? = some o ∧ o.isCells = false) → ∀ r, row = some r → w.heap.size + 2 ≤ r :=
    fun h r e => by have := (h r e).1; omega
  refine ⟨w.heap.size + 1, _, W1, ⟨.fn (.func gf) lb, #[.func (.yield (w.heap.size + 1)) #[] #[]]⟩, W1, gf, #[.func (.yield (w.heap.size + 1)) #[] #[]] ++ lb, W1, run_enterLoop_outer _ _ _ _ _, ?_, ?_, ?_, fun _ => h1, ?_⟩
  · simp only [resolve, hg]; simp [go_sem]
  · intro f' hf'; simp [Target.leads] at hf'; rw [← hf']; exact hFg
  · simp [invoke, go_sem, eg]
  refine (hseq (w.heap.size + 1)
    (fun pre W => I pre W ∧ W.heap[w.heap.size + 1]? = some (.loop (R .ready none)) ∧ W.heap[w.heap.size]? = some (.deferred (some [])))
    (fun pre W => ∃ c, Ix c pre W ∧ W.heap[w.heap.size + 1]? = some (.loop (R .done (some c))) ∧ W.heap[w.heap.size]? = some (.deferred (some [])))
    W1 (by omega) (by omega) (((Below.refl _ w).alloc (Nat.le_refl _) _).alloc (by simp) _) ?_ ?_ (fun pre W h => hRd pre W h.1) ?_ ⟨hI.alloc _ (hI.alloc _ h0), rec1, def1⟩).mono ?_
  · rintro s X Y row ⟨i, r, d⟩ gr hr
    exact ⟨hI s X Y row i gr (low (Y := Y) hr), grown_keep gr (far hr) (by omega) r, grown_keep gr (far hr) (by omega) d⟩
  · rintro s X Y row ⟨c, i, r, d⟩ gr hr
    exact ⟨c, hIx c s X Y row i gr (low (Y := Y) hr), grown_keep gr (far hr) (by omega) r, grown_keep gr (far hr) (by omega) d⟩
  · -- a round
    rintro pre x W ⟨i, r, d⟩ ok
    have rl := lt_of_heap r
    have hy := run_yield (P := P) (args := encs x) r (hps x)
    have dl := lt_of_heap d
    have ra : (W.alloc (ob x)).heap[w.heap.size + 1]? = some (.loop (R .ready none)) := (Below.heap_alloc _ _ _ rl).trans r
    have da : (W.alloc (ob x)).heap[w.heap.size]? = some (.deferred (some [])) := (Below.heap_alloc _ _ _ dl).trans d
    have rla := lt_of_heap ra
    have b2 : ((W.alloc (ob x)).putObj (w.heap.size + 1) (.loop (R .busy none))).heap[w.heap.size + 1]? = some (.loop (R .busy none)) := World.putObj_heap_same rla
    have d2 : ((W.alloc (ob x)).putObj (w.heap.size + 1) (.loop (R .busy none))).heap[w.heap.size]? = some (.deferred (some [])) := (World.putObj_heap_other (by omega)).trans da
    have o2 : ((W.alloc (ob x)).putObj (w.heap.size + 1) (.loop (R .busy none))).heap[W.heap.size]? = some (ob x) := (World.putObj_heap_other (by omega)).trans (heap_alloc_new _ _)
    refine ⟨fn, _, assign, body, hy, roundIn_of_wpIn hfn (hassign _ x W _ ⟨_, run_beginRound ra rfl, ?_⟩)⟩
    refine wpIn_mono (hbody (w.heap.size + 1) pre x ((W.alloc (ob x)).putObj (w.heap.size + 1) (.loop (R .busy none))) W.heap.size (by omega) (by omega) o2 (hI.putObj _ (hI.alloc _ i) (by omega) ra rfl) ok) ?_
    have keeps : ∀ (V : World) (o : Obj), KeepsFrom w.heap.size ((W.alloc (ob x)).putObj (w.heap.size + 1) (.loop (R .busy none))) V → KeepsFrom W1.heap.size W (V.putObj (w.heap.size + 1) o) := by
      intro V o kp
      refine ⟨by have := kp.size; simp at this ⊢; omega, fun k o' hk h0 hc => ?_⟩
      rw [World.putObj_heap_other (by omega)]
      exact kp.same k o' (by omega) ((World.putObj_heap_other (by omega)).trans ((Below.heap_alloc _ _ _ (lt_of_heap h0)).trans h0)) hc
    have out : ∀ (j : Option Code) (V : World), KeepsFrom w.heap.size ((W.alloc (ob x)).putObj (w.heap.size + 1) (.loop (R .busy none))) V →
        ∃ st, st = (if j.isNone = true then LoopState.ready else .done) ∧ V.heap[w.heap.size + 1]? = some (.loop (R .busy none)) ∧
          (Instr.endRound (w.heap.size + 1) j).run P V = .ok (.bool j.isNone) (V.putObj (w.heap.size + 1) (.loop (R st j))) ∧
          (V.putObj (w.heap.size + 1) (.loop (R st j))).heap[w.heap.size + 1]? = some (.loop (R st j)) ∧ (V.putObj (w.heap.size + 1) (.loop (R st j))).heap[w.heap.size]? = some (.deferred (some [])) := by
      intro j V kp
      have r3 := kp.same _ _ (by omega) b2 rfl
      exact ⟨_, rfl, r3, run_endRound j r3, World.putObj_heap_same (lt_of_heap r3), (World.putObj_heap_other (by omega)).trans (kp.same _ _ (Nat.le_refl _) d2 rfl)⟩
    intro e a3 V hp
    cases e with
    | normal =>
      obtain ⟨k3, kp3, i3⟩ := hp
      obtain ⟨st, hst, r3, er, r4, d4⟩ := out none V k3
      have hst : st = .ready := hst
      subst hst
      exact ⟨_, _, er, .inl ⟨rfl, ⟨hI.putObj _ i3 (by omega) r3 rfl, r4, d4⟩, hKt (hKa _ _ _) (hKt (hKt (hKb _ _ _ (by omega)) kp3) (hKb _ _ _ (by omega)))⟩⟩
    | ret =>
      obtain ⟨k3, i3⟩ := hp
      obtain ⟨st, hst, r3, er, r4, d4⟩ := out (some .ret) V k3
      have hst : st = .done := hst
      subst hst
      exact ⟨_, _, er, .inr ⟨rfl, ⟨_, (hIx _).putObj _ i3 (by omega) r3 rfl, r4, d4⟩, keeps V _ k3⟩⟩
    | exit id =>
      obtain ⟨k3, i3⟩ := hp
      obtain ⟨st, hst, r3, er, r4, d4⟩ := out (some (.exit id)) V k3
      have hst : st = .done := hst
      subst hst
      exact ⟨_, _, er, .inr ⟨rfl, ⟨_, (hIx _).putObj _ i3 (by omega) r3 rfl, r4, d4⟩, keeps V _ k3⟩⟩
    | goto t =>
      obtain ⟨k3, i3⟩ := hp
      obtain ⟨st, hst, r3, er, r4, d4⟩ := out (some (.goto t)) V k3
      have hst : st = .done := hst
      subst hst
      exact ⟨_, _, er, .inr ⟨rfl, ⟨_, (hIx _).putObj _ i3 (by omega) r3 rfl, r4, d4⟩, keeps V _ k3⟩⟩
    | panic ch => exact hp.elim
    | outgrown => exact hp.elim
  · -- behind the iterator
    rintro e V ⟨⟨v, rfl⟩, (⟨xs, hS, i, r, d⟩ | ⟨pre, hSp, c, i, r, d⟩)⟩
    · exact ⟨none, _, run_endLoop r (fun h => by cases h), hdone _ xs _ (Nat.le_refl _) hS (hI.putObj _ i (by omega) r rfl) ((World.putObj_heap_other (by omega)).trans d)⟩
    · exact ⟨some c, _, run_endLoop r (fun h => by cases h), hstop _ c pre _ (Nat.le_refl _) hSp ((hIx c).putObj _ i (by omega) r rfl) ((World.putObj_heap_other (by omega)).trans d)⟩

theorem stay_alloc (K : Nat → Prop) (W : World) (o : Obj) : Stay K W (W.alloc o) := (Stay.refl _ _).alloc o
end Go.Proofs.YtbagfepdmmfegaaDoor
