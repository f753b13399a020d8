import Derived.Test.YtbagfepdmmfegaaDoorK04
import Derived.Test.YtbagfepdmmfegaaDoorK01
import Derived.Deep.CutRange
set_option linter.unusedVariables false
set_option linter.unusedSimpArgs false
namespace Go.Proofs.YtbagfepdmmfegaaDoor
open Go.RowKit

/-- 'append(l, src...)' at the reference's blocks -/
theorem wp_apps {ops : Array Oper} {rest : List Oper} {o : Oper} {a : Act} {Q : Exit → Act → World → Prop} {W : World} (hgd : o.guard = none) (s x : Operand)
    (ho : o.op = .call { callee := .builtin .append, args := #[s, x], argTypes := #[129, 129] })
    (base : Nat) (v : Value) (L M : List (Int × Int)) (hs : a.eval s = v) (hown : W.ownsRow base 134 2 v L.length (flat L)) (ao : Option Addr) (ad : Addr) (m c : Nat) (hm : M.length = m) (hao : ao = some ad) (hx : a.eval x = .slice ao m c)
    (hc : ∀ j u, (flat M)[j]? = some u → W.cell? (ad.add j) = some u) (hn : L.length + M.length ≤ 4000) (hbase : base ≤ W.heap.size)
    (h : ∀ v' w', w'.ownsRow base 134 2 v' (L ++ M).length (flat (L ++ M)) → W.grownBy w' v.ownBlock → wpList Tryd.prog ops Q rest (a.put o.dst v') w') : wpList Tryd.prog ops Q (o :: rest) a W := by
  subst hm hao
  obtain ⟨i0, hi, hi0, hi1, hi2⟩ := info_parts infoBlock
  refine wpList_append_own _ hgd s x 129 ho base 134 i0 _ 2 16 Tryd.underlying129 hi hi0 hi1 hi2 rfl (by decide) v L.length (flat L) hs hown ad M.length c (flat M) hx (flat_length M)
    hc (by intro u hu; simp [flat] at hu; obtain ⟨_, _, _, h | h⟩ := hu <;> subst h <;> rfl) (by unfold maxLen; omega) (by omega) hbase ?_
  intro v' w' h2 h3 _
  refine h v' w' ?_ h3
  rw [flat_append]
  simpa using h2

theorem flat_mem (M : List (Int × Int)) (j : Nat) (u : Value) (h : (flat M)[j]? = some u) : ∃ k, k < M.length ∧ ((j = k * 2 ∧ u = .int .i64 (Ti.bk M k).1) ∨ (j = k * 2 + 1 ∧ u = .int .i64 (Ti.bk M k).2)) := by
  have hj : j < (flat M).length := (List.getElem?_eq_some_iff.1 h).1
  rw [flat_length] at hj
  have hk : j / 2 < M.length := by omega
  have := flat_get M (j / 2) hk
  refine ⟨j / 2, hk, ?_⟩
  rcases Nat.mod_two_eq_zero_or_one j with hm | hm
  · left
    have e : j / 2 * 2 = j := by omega
    rw [e, h] at this
    exact ⟨e.symm, by simpa using this.1⟩
  · right
    have e : j / 2 * 2 + 1 = j := by omega
    rw [e, h] at this
    exact ⟨e.symm, by simpa using this.2⟩

/-- cells of a piece of the blocks' list -/
theorem RefAt.piece {w : World} {r bf bz cap : Nat} {p : Option Addr} {S : Ti.St} (h : RefAt w r bf bz p cap S) (bb : Nat) (hp : p = some ⟨bb, 0, none⟩) (i n : Nat) (hn : i + n ≤ S.blocks.length) (ad : Addr) (ha : n = 0 ∨ ad = ⟨bb, i * 2, none⟩) :
    ∀ j u, (flat ((S.blocks.drop i).take n))[j]? = some u → w.cell? (ad.add j) = some u := by
  intro j u hu
  obtain ⟨k, hk, hu⟩ := flat_mem _ _ _ hu
  have hk' : k < n := by simp at hk; omega
  rcases ha with ha | rfl
  · omega
  · have hbk : Ti.bk ((S.blocks.drop i).take n) k = Ti.bk S.blocks (i + k) := by
      simp [Ti.bk, List.getElem?_take, hk', List.getElem?_drop]
    obtain ⟨b', e, c1, c2⟩ := h.bc (i + k) (by omega)
    rw [hp] at e
    cases e
    rw [hbk] at hu
    rcases hu with ⟨rfl, rfl⟩ | ⟨rfl, rfl⟩
    · have : (⟨bb, i * 2, none⟩ : Addr).add (k * 2) = ⟨bb, (i + k) * 2, none⟩ := by
        unfold Addr.add; split
        · rename_i h0; have : k = 0 := by omega
          subst this; simp
        · simp; omega
      rw [this]; exact c1
    · have : (⟨bb, i * 2, none⟩ : Addr).add (k * 2 + 1) = ⟨bb, (i + k) * 2 + 1, none⟩ := by
        unfold Addr.add; split
        · omega
        · simp; omega
      rw [this]; exact c2

theorem RefAt.head {w : World} {r bf bz cap : Nat} {S : Ti.St} {bb : Nat} (h : RefAt w r bf bz (some ⟨bb, 0, none⟩) cap S) (n : Nat) (hn : n ≤ S.blocks.length) :
    ∀ j u, (flat (S.blocks.take n))[j]? = some u → w.cell? ((⟨bb, 0, none⟩ : Addr).add j) = some u := by
  have := h.piece bb rfl 0 n (by omega) ⟨bb, 0, none⟩ (.inr (by simp))
  simpa using this
theorem RefAt.tail {w : World} {r bf bz cap : Nat} {S : Ti.St} {bb : Nat} (h : RefAt w r bf bz (some ⟨bb, 0, none⟩) cap S) (i : Nat) (hi : i ≤ S.blocks.length) (ad : Addr) (ha : i < S.blocks.length → ad = ⟨bb, i * 2, none⟩) :
    ∀ j u, (flat (S.blocks.drop i))[j]? = some u → w.cell? (ad.add j) = some u := by
  have := h.piece bb rfl i (S.blocks.length - i) (by omega) ad (by by_cases e : i < S.blocks.length; exact .inr (ha e); exact .inl (by omega))
  rw [List.take_of_length_le (by simp)] at this
  exact this

theorem RefAt.setHeap0 {w : World} {r bf bz cap : Nat} {p : Option Addr} {S : Ti.St} (h : RefAt w r bf bz p cap S) (hA : Apart4 r bf bz p) (f : Nat) (hf : f < S.sups.length) :
    RefAt (w.setCell ⟨bf, f * 3 + 2, none⟩ (.int .i64 0)) r bf bz p cap (S.setSup f { S.sup f with heap := 0 }) := by
  have h1 := h.setSup hA f hf { S.sup f with heap := 0 }
  obtain ⟨c, q1, q2, q3⟩ := h.sups
  obtain ⟨a1, a2, a3⟩ := q3 f hf
  refine ⟨?_, ?_, ?_, ?_, h1.le⟩
  · rw [heap_set_ne hA.rf]
    simpa [Ti.St.setSup] using h.hd
  · obtain ⟨c', p1, p2, p3⟩ := h1.sups
    refine ⟨c', ?_, p2, p3⟩
    rw [← p1, heap_set q1, heap_set (heap_set (heap_set q1 _ _) _ _)]
    have e1 : c.setIfInBounds (f * 3) (.bool (S.sup f).is) = c := by
      apply Array.ext_getElem?
      intro i
      by_cases e : f * 3 = i
      · subst e; rw [a1]; simp [(Array.getElem?_eq_some_iff.1 a1).1]
      · rw [Array.getElem?_setIfInBounds_ne e]
    have e2 : c.setIfInBounds (f * 3 + 1) (.int .i64 (S.sup f).cls) = c := by
      apply Array.ext_getElem?
      intro i
      by_cases e : f * 3 + 1 = i
      · subst e; rw [a2]; simp [(Array.getElem?_eq_some_iff.1 a2).1]
      · rw [Array.getElem?_setIfInBounds_ne e]
    show some (Obj.cells _ _ _) = some (Obj.cells (((c.setIfInBounds (f * 3) (.bool (S.sup f).is)).setIfInBounds (f * 3 + 1) (.int .i64 (S.sup f).cls)).setIfInBounds (f * 3 + 2) _) _ _)
    rw [e1, e2]
  · obtain ⟨c', p1, p2, p3⟩ := h.bytes
    exact ⟨c', (heap_set_ne hA.fz.symm _ _).trans p1, p2, p3⟩
  · intro j hj
    obtain ⟨bb, c', f', p1, p2, p3⟩ := h.blocks j hj
    exact ⟨bb, c', f', p1, (heap_set_ne (hA.pr _ p1).2.1 _ _).trans p2, p3⟩

theorem stats_bd (S : Ti.St) (hB : Bd S) (h c : Int) : 0 ≤ S.held h c ∧ S.held h c ≤ 1024 ∧ 0 ≤ S.charged h c ∧ S.charged h c ≤ 524288 := by
  have h1 := held_bd S h c S.sups.length
  have h2 := charged_bd S hB h c S.sups.length
  have := hB.f16
  unfold Ti.St.held Ti.St.charged
  omega

set_option maxRecDepth 100000 in
set_option maxHeartbeats 4000000 in
theorem refFree_no (w : World) (r bf bz cap : Nat) (p : Option Addr) (S : Ti.St) (a : Int) (hR : RefAt w r bf bz p cap S) (hI : Ti.Inv S) (h : Ti.atI S.blocks a < 0) :
    Calls Tryd.prog 67 #[.pointer (some ⟨r, 0, none⟩), .int .i64 a] w fun e w' => e = .returned (.int .i64 3) ∧ w = w' := by
  go_enter Tryd.func67, Tryd.ntmps67
  go_wp2_with fail
  refine (at_any _ r bf bz cap p S _ hR (Bd.of S hI.toInv0)).mono ?_
  rintro e w' ⟨rfl, rfl⟩
  go_wp2
  go_ret
  exact ⟨rfl, rfl⟩

set_option maxRecDepth 100000 in
set_option maxHeartbeats 4000000 in
theorem refFree_large (w : World) (r bf bz cap : Nat) (p : Option Addr) (S : Ti.St) (a : Int) (hR : RefAt w r bf bz p cap S) (hI : Ti.Inv S) (hA : Apart4 r bf bz p) (h : 0 ≤ Ti.atI S.blocks a) (hsz : 32 < (Ti.bk S.blocks (Ti.atI S.blocks a).toNat).2) :
    Calls Tryd.prog 67 #[.pointer (some ⟨r, 0, none⟩), .int .i64 a] w fun e w' => e = .returned (.int .i64 (S.freeAt a).1) ∧ RefPost w w' r bf bz p (S.freeAt a).2 := by
  have hB := Bd.of S hI.toInv0
  have hl := hB.b1024
  have Hf : Hid _ := Ti.freeAt_eq S a h
  obtain ⟨hk, ha⟩ := Ti.atI_at S.blocks a h
  obtain ⟨k, hka⟩ := Int.eq_ofNat_of_zero_le h
  have Hka : Hid (Ti.atI S.blocks a = (k : Int)) := hka
  rw [hka, Int.toNat_natCast] at Hf hk ha hsz
  clear hka h
  obtain ⟨bb, rfl, q1, q2⟩ := hR.bc k hk
  obtain ⟨z1, z2, z3, z4⟩ := hB.at0 k hk
  obtain ⟨o1, o2, o3, o4, o5, o6⟩ := hI.ok _ (Ti.bk_mem hk)
  have hr := hR.c2
  have hle := hR.le
  have hrl := lt_of_heap hR.hd
  generalize hbk : Ti.bk S.blocks k = b at *
  obtain ⟨a', sz⟩ := b
  dsimp only at *
  subst ha
  obtain ⟨an, rfl⟩ := Int.eq_ofNat_of_zero_le z1
  obtain ⟨L2, HL2⟩ : ∃ L2, Hid (L2 = S.blocks.take k ++ S.blocks.drop (k + 1)) := ⟨_, rfl⟩
  have Hless : Hid (S.less k = { S with blocks := L2 }) := by show _ = _; rw [HL2.out]; rfl
  have Hf2 : Hid (S.freeAt an = (0, S.less k)) := by show _ = _; rw [Hf.out, if_pos hsz]
  clear Hf o5 o6 hbk
  go_enter Tryd.func67, Tryd.ntmps67
  go_wp2_with fail
  refine (at_any _ r bf bz cap _ S _ hR hB).mono ?_
  rintro e w' ⟨rfl, rfl⟩
  rw [Hka.out]
  go_wp2_with (first | (at_builtin; refine wp_apps rfl (.tmp 25) (.tmp 31) rfl (w.heap.size + 1) _ [] (S.blocks.take k) rfl (World.ownsRow_nil _ _ _ _) _ ⟨bb, 0, none⟩ k cap (by first | (simp; done) | (simp; omega) | omega) rfl rfl ((hR.keep0 ((Ext.refl _ _).alloc _)).head k (by omega)) (by first | (simp; done) | (simp; omega) | omega) (by simp) ?_; intro v1 w1 hown1 hgrow1; rw [List.nil_append] at hown1; obtain ⟨hE1, hbox1⟩ := app_step (e := 134) (size := 2) ((Ext.refl _ _).alloc _) (heap_alloc_new _ _) (World.ownsRow_nil _ _ _ _) hgrow1; have hR1 := hR.keep0 hE1; have hr1 := hR1.c2) | (at_builtin; refine wp_apps rfl (.tmp 33) (.tmp 40) rfl (w.heap.size + 1) v1 (S.blocks.take k) (S.blocks.drop (k + 1)) rfl hown1 _ (if cap = k + 1 then ⟨bb, 0, none⟩ else ⟨bb, (k + 1) * 2, none⟩) (S.blocks.length - (k + 1)) (cap - (k + 1)) (by simp) (by split <;> rfl) rfl (hR1.tail (k + 1) (by omega) _ (by intro h; rw [if_neg (by omega)])) (by first | (simp; done) | (simp; omega) | omega) (by have := hE1.size; have := lt_of_heap hbox1; omega) ?_; intro v2 w2 hown2 hgrow2; generalize (ite (cap = k + 1) (some (⟨bb, 0, none⟩ : Addr)) (some ⟨bb, (k + 1) * 2, none⟩)) = ao; rw [← HL2.out] at hown2; obtain ⟨hE2, hbox2⟩ := app_step hE1 hbox1 hown1 hgrow2; have hR2 := hR.keep0 hE2; have hr2 : w2.cell? ⟨r, 4, none⟩ = _ := hR2.c2; have hf2 := frozen_of hR2.hd 4; obtain ⟨p2, cap2, rfl, hbl2, hp2, hle2⟩ := blocksIn_of_owns hown2; have m0 := cell_of hbox2 0; have m1 := cell_of hbox2 1; simp at m0 m1; have hneq : w.heap.size ≠ r := by omega))
  go_ret
  refine ⟨by rw [Hf2.out]; rfl, ?_⟩
  rw [Hf2.out, Hless.out]
  refine ⟨p2, cap2, hR2.setBlocks hA hbl2 (fun x hx => by have := (hp2 x hx).1; omega) hle2, Apart4.new hR hA (fun x hx => by have := (hp2 x hx).1; omega), (.inr fun x hx => by have := (hp2 x hx).1; omega), (hE2.mono (fun _ _ x => x.elim)).setCell ⟨r, 4, none⟩ (.inl (.inl rfl)) _⟩

set_option maxRecDepth 100000 in
set_option maxHeartbeats 8000000 in
theorem refFree_small (w : World) (r bf bz cap : Nat) (p : Option Addr) (S : Ti.St) (a : Int) (hR : RefAt w r bf bz p cap S) (hI : Ti.Inv S) (hA : Apart4 r bf bz p) (h : 0 ≤ Ti.atI S.blocks a) (hsz : ¬ 32 < (Ti.bk S.blocks (Ti.atI S.blocks a).toNat).2) :
    Calls Tryd.prog 67 #[.pointer (some ⟨r, 0, none⟩), .int .i64 a] w fun e w' => e = .returned (.int .i64 (S.freeAt a).1) ∧ RefPost w w' r bf bz p (S.freeAt a).2 := by
  have hB := Bd.of S hI.toInv0
  have hl := hB.b1024
  have Hf : Hid _ := Ti.freeAt_eq S a h
  obtain ⟨hk, ha⟩ := Ti.atI_at S.blocks a h
  obtain ⟨k, hka⟩ := Int.eq_ofNat_of_zero_le h
  have Hka : Hid (Ti.atI S.blocks a = (k : Int)) := hka
  rw [hka, Int.toNat_natCast] at Hf hk ha hsz
  clear hka h
  obtain ⟨bb, rfl, q1, q2⟩ := hR.bc k hk
  obtain ⟨z1, z2, z3, z4⟩ := hB.at0 k hk
  obtain ⟨o1, o2, o3, o4, o5, o6⟩ := hI.ok _ (Ti.bk_mem hk)
  have hr := hR.c2
  have hle := hR.le
  have hrl := lt_of_heap hR.hd
  generalize hbk : Ti.bk S.blocks k = b at *
  obtain ⟨a', sz⟩ := b
  dsimp only at *
  subst ha
  obtain ⟨an, rfl⟩ := Int.eq_ofNat_of_zero_le z1
  obtain ⟨L2, HL2⟩ : ∃ L2, Hid (L2 = S.blocks.take k ++ S.blocks.drop (k + 1)) := ⟨_, rfl⟩
  have Hless : Hid (S.less k = { S with blocks := L2 }) := by show _ = _; rw [HL2.out]; rfl
  have Hf2 : Hid (S.freeAt an = (0, ((S.less k).give (S.sup (an / 64)).heap (S.sup (an / 64)).cls).sweep)) := by show _ = _; rw [Hf.out, if_neg hsz]; rfl
  have h16 := hI.f16
  have hfr : an / 64 < S.sups.length := by omega
  obtain ⟨u1, _, _⟩ := o5 (by omega)
  have u1 : (S.sup (an / 64)).is = true := u1
  obtain ⟨_, u2, u3, u4, u5⟩ := hI.sup _ u1
  have hbfr : bf ≠ r := hA.rf.symm
  clear Hf o5 o6 hbk
  go_enter Tryd.func67, Tryd.ntmps67
  go_wp2_with fail
  refine (at_any _ r bf bz cap _ S _ hR hB).mono ?_
  rintro e w' ⟨rfl, rfl⟩
  rw [Hka.out]
  go_upto_if 59 with (first | (at_builtin; refine wp_apps rfl (.tmp 25) (.tmp 31) rfl (w.heap.size + 1) _ [] (S.blocks.take k) rfl (World.ownsRow_nil _ _ _ _) _ ⟨bb, 0, none⟩ k cap (by first | (simp; done) | (simp; omega) | omega) rfl rfl ((hR.keep0 ((Ext.refl _ _).alloc _)).head k (by omega)) (by first | (simp; done) | (simp; omega) | omega) (by simp) ?_; intro v1 w1 hown1 hgrow1; rw [List.nil_append] at hown1; obtain ⟨hE1, hbox1⟩ := app_step (e := 134) (size := 2) ((Ext.refl _ _).alloc _) (heap_alloc_new _ _) (World.ownsRow_nil _ _ _ _) hgrow1; have hR1 := hR.keep0 hE1; have hr1 := hR1.c2) | (at_builtin; refine wp_apps rfl (.tmp 33) (.tmp 40) rfl (w.heap.size + 1) v1 (S.blocks.take k) (S.blocks.drop (k + 1)) rfl hown1 _ (if cap = k + 1 then ⟨bb, 0, none⟩ else ⟨bb, (k + 1) * 2, none⟩) (S.blocks.length - (k + 1)) (cap - (k + 1)) (by simp) (by split <;> rfl) rfl (hR1.tail (k + 1) (by omega) _ (by intro h; rw [if_neg (by omega)])) (by first | (simp; done) | (simp; omega) | omega) (by have := hE1.size; have := lt_of_heap hbox1; omega) ?_; intro v2 w2 hown2 hgrow2; generalize (ite (cap = k + 1) (some (⟨bb, 0, none⟩ : Addr)) (some ⟨bb, (k + 1) * 2, none⟩)) = ao; rw [← HL2.out] at hown2; obtain ⟨hE2, hbox2⟩ := app_step hE1 hbox1 hown1 hgrow2; have hR2 := hR.keep0 hE2; have hr2 : w2.cell? ⟨r, 4, none⟩ = _ := hR2.c2; have hf2 := frozen_of hR2.hd 4; obtain ⟨p2, cap2, rfl, hbl2, hp2, hle2⟩ := blocksIn_of_owns hown2; have m0 := cell_of hbox2 0; have m1 := cell_of hbox2 1; simp at m0 m1; have hneq : w.heap.size ≠ r := (by omega); obtain ⟨x1, x2, x3⟩ := hR2.sc (an / 64) hfr; have hr3 := hR2.c1))
  have hR3 := hR2.setBlocks (cap' := cap2) hA hbl2 (fun x hx => by have := (hp2 x hx).1; omega) hle2
  rw [← Hless.out] at hR3
  have hA3 : Apart4 r bf bz p2 := Apart4.new hR hA (fun x hx => by have := (hp2 x hx).1; omega)
  have hE3 : Ext (three r bf bz) w (w2.setCell ⟨r, 4, none⟩ (.slice p2 L2.length cap2)) := (hE2.mono (fun _ _ x => x.elim)).setCell ⟨r, 4, none⟩ (.inl (.inl rfl)) _
  have hI1 : Ti.Inv0 (S.less k) := Ti.inv0_less S hI.toInv0 k
  have hB1 := Bd.of _ hI1
  go_cut [] from 5 (fun wc => RefAt wc r bf bz p2 cap2 ((S.less k).give (S.sup (an / 64)).heap (S.sup (an / 64)).cls) ∧ Ext (three r bf bz) w wc)
  case first =>
    have hws : (w2.setCell ⟨r, 4, none⟩ (.slice p2 L2.length cap2)).heap.size = w2.heap.size := by simp [World.setCell]
    generalize hW3 : w2.setCell ⟨r, 4, none⟩ (.slice p2 L2.length cap2) = W3 at *
    rw [← hws]
    clear hws hW3 hr2 hf2 hbl2 m0 m1 x1 x2 x3 hr3 hown2 hgrow2 hbox2 hR2 hE2
    generalize hsp : S.sup (an / 64) = sp at *
    obtain ⟨si, sc, sh⟩ := sp
    dsimp only at *
    by_cases hh0 : sh = 0
    · subst hh0
      go_wp2
      go_meet
      case rel => exact ⟨by rw [Ti.give_no _ _ _ (by omega)]; exact hR3.keep0 ((Ext.refl _ _).alloc _), hE3.alloc _⟩
    · have hh1 : 0 < sh := by omega
      go_wp2_with fail
      refine (refStats_any _ r bf bz cap2 p2 (S.less k) _ _ (hR3.keep0 ((Ext.refl _ _).alloc _)) hB1 u4 u5 u2 u3).mono ?_
      rintro e w4 ⟨rfl, hE4⟩
      have hE4' : Ext none1 W3 w4 := ((Ext.refl _ _).alloc _).trans' hE4 (fun _ _ x => x)
      have hR4 := hR3.keep0 hE4'
      have hx4 := hE4.keep (heap_alloc_new _ _) (fun x => x)
      have hx1 := cell_of hx4 1
      have hx2 := cell_of hx4 2
      simp at hx1 hx2
      have hx5 := lt_of_heap hx4
      clear hx4
      have hbd := stats_bd (S.less k) hB1 sh sc
      have hs4 : w4.cell? ⟨r, 2, none⟩ = some (.int .i64 S.slack) := by rw [cell_of hR4.hd]; rfl
      have hr4 := lt_of_heap hR4.hd
      have hsl1 := hI.s1
      have hsl4 := hI.s4
      have Htm : Hid ((S.less k).tooMuch sh sc = (decide ((S.less k).charged sh sc + 64 * S.slack < (S.less k).held sh sc) && decide (2 * (S.less k).charged sh sc < (S.less k).held sh sc))) := rfl
      have Hem : Hid (0 < (S.less k).held sh sc → ∃ f : Nat, f < (S.less k).sups.length ∧ (S.less k).emptiest sh sc = (f : Int) ∧ (S.less k).mine sh sc f = true ∧ ∀ j, j < (S.less k).sups.length → (S.less k).mine sh sc j = true → (S.less k).used f ≤ (S.less k).used j) := Ti.emptiest_of (S.less k) hI1 sh sc
      generalize (S.less k).held sh sc = hd at *
      generalize (S.less k).charged sh sc = ch at *
      by_cases c1 : ch + 64 * S.slack < hd
      · by_cases c2 : 2 * ch < hd
        · obtain ⟨f, hf, hfe, _, _⟩ := Hem.out (by omega)
          have hf' : f < S.sups.length := hf
          have Hfe : Hid ((S.less k).emptiest sh sc = (f : Int)) := hfe
          have hgy : Hid ((S.less k).give sh sc = (S.less k).setSup f { (S.less k).sup f with heap := 0 }) := by
            show _ = _
            rw [Ti.give_yes _ _ _ ⟨hh1, by rw [Htm.out]; simp [c1, c2]⟩, Hfe.out, Int.toNat_natCast]
          have hd1 : decide (ch + 64 * S.slack < hd) = true := decide_eq_true c1
          clear hfe Hem Htm
          go_wp2
          go_region
          all_goals go_wp2_with fail
          all_goals refine (emptiest_any _ r bf bz cap2 p2 (S.less k) _ _ (hR4.keep0 (((Ext.refl _ _).alloc _).drew)) hB1).mono ?_
          all_goals rintro e w5 ⟨rfl, hE5⟩
          all_goals rw [Hfe.out]
          all_goals have hR5 := (hR4.keep0 (((Ext.refl _ _).alloc _).drew)).keep0 hE5
          all_goals obtain ⟨x1, x2, x3⟩ := hR5.sc f hf
          all_goals have xf := hR5.sf (f * 3 + 2)
          all_goals have hr5 : w5.cell? ⟨r, 3, none⟩ = some (.slice (some ⟨bf, 0, none⟩) S.sups.length S.sups.length) := hR5.c1
          all_goals go_wp2
          all_goals go_meet
          case rel => exact ⟨by rw [hgy.out]; exact hR5.setHeap0 hA3 f hf, (((((hE3.trans' hE4' (fun _ _ x => x.elim)).alloc _).drew).trans' hE5 (fun _ _ x => x.elim)).setCell ⟨bf, f * 3 + 2, none⟩ (.inl (.inr (.inl rfl))) _)⟩
        · have hgn : Hid ((S.less k).give sh sc = S.less k) := Ti.give_no _ _ _ (by rw [Htm.out]; simp [c2])
          have hd1 : decide (ch + 64 * S.slack < hd) = true := decide_eq_true c1
          go_wp2
          go_region
          all_goals go_wp2
          all_goals go_meet
          case rel => exact ⟨by rw [hgn.out]; exact hR4.keep0 (((Ext.refl _ _).alloc _).drew), ((hE3.trans' hE4' (fun _ _ x => x.elim)).alloc _).drew⟩
      · have hgn : Hid ((S.less k).give sh sc = S.less k) := Ti.give_no _ _ _ (by rw [Htm.out]; simp [c1])
        have hd1 : decide (ch + 64 * S.slack < hd) = false := decide_eq_false c1
        go_wp2
        go_region
        all_goals go_wp2
        all_goals go_meet
        case rel => exact ⟨by rw [hgn.out]; exact hR4.keep0 (((Ext.refl _ _).alloc _).drew), ((hE3.trans' hE4' (fun _ _ x => x.elim)).alloc _).drew⟩
  case rest =>
    obtain ⟨hRc, hEc⟩ := hcut
    have hIT : Ti.Inv0 ((S.less k).give (S.sup (an / 64)).heap (S.sup (an / 64)).cls) := Ti.inv0_give _ hI1 _ _
    generalize (S.less k).give (S.sup (an / 64)).heap (S.sup (an / 64)).cls = T at *
    have hBT := Bd.of T hIT
    have hlT := hBT.f16
    have hpfin : ∀ x, p2 = some x → w.heap.size ≤ x.block := fun x hx => by have := (hp2 x hx).1; omega
    have Hpf : Hid (∀ x, p2 = some x → w.heap.size ≤ x.block) := hpfin
    clear hpfin hr2 hf2 hbl2 m0 m1 x1 x2 x3 hr3 hown2 hgrow2 hbox2 hR2 hE2 hown1 hgrow1 hR1 hE1 hbox1 hr1 hr q1 q2 hR3 hE3 hp2
    go_wp2
    go_loopw [12] (fun i wr => ∃ j : Nat, j ≤ T.sups.length ∧ i = .int .i64 j ∧ RefAt wr r bf bz p2 cap2 (T.sweepTo j) ∧ Ext (three r bf bz) w wr) (fun i _ => T.sups.length - (intOf i).toNat)
    case atStart => exact ⟨0, Nat.zero_le _, rfl, hRc, hEc⟩
    case round =>
      obtain ⟨j, hj, rfl, hRj, hEj⟩ := hrel
      obtain ⟨s1, s2, s3, s4, s5⟩ := Ti.sweepTo_same T j
      have hr : wr.cell? ⟨r, 3, none⟩ = some (.slice (some ⟨bf, 0, none⟩) T.sups.length T.sups.length) := by rw [← s5]; exact hRj.c1
      have hBj : Bd (T.sweepTo j) := by
        refine ⟨by rw [s3]; exact hBT.h1, by rw [s3]; exact hBT.h4, by rw [s4]; exact hBT.s1, by rw [s4]; exact hBT.s4, by rw [s5]; exact hBT.f16, by rw [s1]; exact hBT.b1024, by rw [s2, s5]; exact hBT.bz, by rw [s1]; exact hBT.at0⟩
      clear hRc hEc s1 s2 s3 s4
      by_cases hlt : j < T.sups.length
      · have hlt' : j < (T.sweepTo j).sups.length := by rw [s5]; exact hlt
        obtain ⟨q1, q2, q3⟩ := hRj.sc j hlt'
        have f1 := hRj.sf (j * 3)
        have f2 := hRj.sf (j * 3 + 1)
        have f3 := hRj.sf (j * 3 + 2)
        have Hst : Hid (T.sweepTo (j + 1) = if ((T.sweepTo j).sup j).is = true ∧ ((T.sweepTo j).sup j).heap = 0 ∧ (T.sweepTo j).used j = 0 then (T.sweepTo j).setSup j Ti.sup0 else T.sweepTo j) := rfl
        have hub := used_le (T.sweepTo j) hBj j
        have Hus : Hid ((T.sweepTo j).used j = Ti.usedN (T.sweepTo j).blocks j) := rfl
        have hset := hRj.setSup hA3 j hlt' Ti.sup0
        clear s5
        generalize T.sweepTo j = V at *
        generalize V.sup j = sp at *
        obtain ⟨si, sc, sh⟩ := sp
        dsimp only at *
        cases si
        · have Hst' : Hid (T.sweepTo (j + 1) = V) := by show _ = _; rw [Hst.out, if_neg (by simp)]
          clear Hst hset
          go_wp2
          go_roundw
          case rel => exact ⟨j + 1, by omega, by go_num, by rw [Hst'.out]; exact hRj, hEj⟩
          case measure => simp [intOf]; omega
        · by_cases e1 : sh = 0
          · subst e1
            by_cases e2 : Ti.usedN V.blocks j = 0
            · have Hst' : Hid (T.sweepTo (j + 1) = V.setSup j Ti.sup0) := by show _ = _; rw [Hst.out, if_pos ⟨rfl, rfl, by rw [Hus.out]; exact e2⟩]
              have Hset : Hid _ := hset
              have He2 : Hid (Ti.usedN V.blocks j = 0) := e2
              clear Hst hset e2
              go_wp2_with fail
              refine (used_any _ r bf bz cap2 p2 V j hRj hBj).mono ?_
              rintro e w' ⟨rfl, rfl⟩
              rw [He2.out]
              go_wp2
              go_roundw
              case rel => exact ⟨j + 1, by omega, by go_num, by rw [Hst'.out]; exact Hset.out, (((hEj.setCell ⟨bf, j * 3, none⟩ (.inl (.inr (.inl rfl))) _).setCell ⟨bf, j * 3 + 1, none⟩ (.inl (.inr (.inl rfl))) _).setCell ⟨bf, j * 3 + 2, none⟩ (.inl (.inr (.inl rfl))) _)⟩
              case measure => simp [intOf]; omega
            · have Hst' : Hid (T.sweepTo (j + 1) = V) := by show _ = _; rw [Hst.out, if_neg (by rw [Hus.out]; intro h; exact e2 h.2.2)]
              have hb3 : ((Ti.usedN V.blocks j : Int) == 0) = false := beq_eq_false_iff_ne.2 (by omega)
              clear Hst hset
              go_wp2_with fail
              refine (used_any _ r bf bz cap2 p2 V j hRj hBj).mono ?_
              rintro e w' ⟨rfl, rfl⟩
              go_wp2
              go_roundw
              case rel => exact ⟨j + 1, by omega, by go_num, by rw [Hst'.out]; exact hRj, hEj⟩
              case measure => simp [intOf]; omega
          · have Hst' : Hid (T.sweepTo (j + 1) = V) := by show _ = _; rw [Hst.out, if_neg (by intro h; exact e1 h.2.1)]
            have hb3 : (sh == 0) = false := beq_eq_false_iff_ne.2 e1
            clear Hst hset e1
            go_wp2
            go_roundw
            case rel => exact ⟨j + 1, by omega, by go_num, by rw [Hst'.out]; exact hRj, hEj⟩
            case measure => simp [intOf]; omega
      · have e : j = T.sups.length := by omega
        subst e
        go_wp2
        go_ret
        refine ⟨by rw [Hf2.out]; rfl, ?_⟩
        rw [Hf2.out]
        exact ⟨p2, cap2, hRj, hA3, (.inr fun x hx => Hpf.out x hx), hEj⟩
end Go.Proofs.YtbagfepdmmfegaaDoor

namespace Go.Proofs.YtbagfepdmmfegaaDoor
open Go.RowKit

/-! ### the program's small functions -/
set_option maxHeartbeats 400000 in
theorem slotSize_any (k : Int) (w : World) (h0 : 0 ≤ k) (h2 : k ≤ 2) :
    Calls Tryd.prog 51 #[.int .i64 k] w fun e w' => e = .returned (.int .i64 (Ti.width k)) ∧ w = w' := by
  have : k = 0 ∨ k = 1 ∨ k = 2 := by omega
  rcases this with rfl | rfl | rfl
  all_goals
    go_enter Tryd.func51, Tryd.ntmps51
    go_wp2
    go_ret
    exact ⟨rfl, rfl⟩

set_option maxHeartbeats 400000 in
theorem slotCount_any (k : Int) (w : World) (h0 : 0 ≤ k) (h2 : k ≤ 2) :
    Calls Tryd.prog 109 #[.int .i64 k] w fun e w' => e = .returned (.int .i64 (Ti.slots k)) ∧ w = w' := by
  have hw := width_cases k
  generalize Ti.slots k = s at *
  go_enter Tryd.func109, Tryd.ntmps109
  go_wp2_with fail
  refine (slotSize_any _ _ h0 h2).mono ?_
  rintro e w' ⟨rfl, rfl⟩
  rcases hw with ⟨h1, h2⟩ | ⟨h1, h2⟩ | ⟨h1, h2⟩
  all_goals
    rw [h1]; subst h2; clear h1
    go_wp2
    go_ret
    exact ⟨rfl, rfl⟩

set_option maxHeartbeats 400000 in
theorem classOf_any (size : Int) (w : World) (hs : size ≤ 32) :
    Calls Tryd.prog 97 #[.int .i64 size] w fun e w' => e = .returned (.int .i64 (Ti.clsOf size)) ∧ w = w' := by
  have hc : 0 ≤ Ti.clsOf size ∧ Ti.clsOf size ≤ 2 := Ti.cls_range size
  go_enter Tryd.func97, Tryd.ntmps97
  go_wp2
  go_loop [3] (fun i => ∃ k : Nat, (k : Int) ≤ Ti.clsOf size ∧ i = .int .i64 k) (fun i => 2 - (intOf i).toNat)
  case atStart => exact ⟨0, by omega, rfl⟩
  case round =>
    obtain ⟨k, hk, rfl⟩ := hrel
    have hst := clsOf_step size k (by omega) hs
    go_wp2_with fail
    refine (slotSize_any _ _ (by omega) (by omega)).mono ?_
    rintro e w' ⟨rfl, rfl⟩
    by_cases hlt : Ti.width k < size
    · have := hst.1 hlt
      go_wp2
      go_round
      case rel => exact ⟨k + 1, by omega, by go_num⟩
      case measure => simp [intOf]; omega
    · have h3 := hst.2 (by omega)
      have h4 : Ti.clsOf size = k := by omega
      go_wp2
      go_ret
      exact ⟨by rw [h4]; rfl, rfl⟩

set_option maxHeartbeats 400000 in
theorem lower_any (a b : Int) (w : World) :
    Calls Tryd.prog 96 #[.int .i64 a, .int .i64 b] w fun e w' => e = .returned (.bool (decide (a < b))) ∧ w = w' := by
  go_enter Tryd.func96, Tryd.ntmps96
  go_wp2
  go_ret
  exact ⟨rfl, rfl⟩

/-- how many of the first n slots hold something -/
def posTo (s : Nat → Int) : Nat → Nat
  | 0 => 0
  | n + 1 => if 0 < s n then posTo s n + 1 else posTo s n
theorem posTo_le (s : Nat → Int) (n : Nat) : posTo s n ≤ n := by
  induction n with
  | zero => simp [posTo]
  | succ n ih => simp only [posTo]; split <;> omega

/-- a frame as a value -/
def frameV (k h c : Int) (s : Nat → Int) : Value := .agg #[.int .i64 k, .int .i64 h, .int .i64 c, .int .i64 (s 0), .int .i64 (s 1), .int .i64 (s 2), .int .i64 (s 3), .int .i64 (s 4), .int .i64 (s 5), .int .i64 (s 6), .int .i64 (s 7)]

theorem index8_0 (a0 a1 a2 a3 a4 a5 a6 a7 : Value) (w : World) : (Instr.index 98 (.agg #[a0, a1, a2, a3, a4, a5, a6, a7]) (.int .i64 ((0 : Nat) : Int))).run Tryd.prog w = .ok a0 w := by kernel_rfl
theorem index8_1 (a0 a1 a2 a3 a4 a5 a6 a7 : Value) (w : World) : (Instr.index 98 (.agg #[a0, a1, a2, a3, a4, a5, a6, a7]) (.int .i64 ((1 : Nat) : Int))).run Tryd.prog w = .ok a1 w := by kernel_rfl
theorem index8_2 (a0 a1 a2 a3 a4 a5 a6 a7 : Value) (w : World) : (Instr.index 98 (.agg #[a0, a1, a2, a3, a4, a5, a6, a7]) (.int .i64 ((2 : Nat) : Int))).run Tryd.prog w = .ok a2 w := by kernel_rfl
theorem index8_3 (a0 a1 a2 a3 a4 a5 a6 a7 : Value) (w : World) : (Instr.index 98 (.agg #[a0, a1, a2, a3, a4, a5, a6, a7]) (.int .i64 ((3 : Nat) : Int))).run Tryd.prog w = .ok a3 w := by kernel_rfl
theorem index8_4 (a0 a1 a2 a3 a4 a5 a6 a7 : Value) (w : World) : (Instr.index 98 (.agg #[a0, a1, a2, a3, a4, a5, a6, a7]) (.int .i64 ((4 : Nat) : Int))).run Tryd.prog w = .ok a4 w := by kernel_rfl
theorem index8_5 (a0 a1 a2 a3 a4 a5 a6 a7 : Value) (w : World) : (Instr.index 98 (.agg #[a0, a1, a2, a3, a4, a5, a6, a7]) (.int .i64 ((5 : Nat) : Int))).run Tryd.prog w = .ok a5 w := by kernel_rfl
theorem index8_6 (a0 a1 a2 a3 a4 a5 a6 a7 : Value) (w : World) : (Instr.index 98 (.agg #[a0, a1, a2, a3, a4, a5, a6, a7]) (.int .i64 ((6 : Nat) : Int))).run Tryd.prog w = .ok a6 w := by kernel_rfl
theorem index8_7 (a0 a1 a2 a3 a4 a5 a6 a7 : Value) (w : World) : (Instr.index 98 (.agg #[a0, a1, a2, a3, a4, a5, a6, a7]) (.int .i64 ((7 : Nat) : Int))).run Tryd.prog w = .ok a7 w := by kernel_rfl
theorem index8 (s : Nat → Int) (k : Nat) (hk : k < 8) (w : World) :
    (Instr.index 98 (.agg #[.int .i64 (s 0), .int .i64 (s 1), .int .i64 (s 2), .int .i64 (s 3), .int .i64 (s 4), .int .i64 (s 5), .int .i64 (s 6), .int .i64 (s 7)]) (.int .i64 (k : Int))).run Tryd.prog w = .ok (.int .i64 (s k)) w := by
  match k, hk with
  | 0, _ => exact index8_0 _ _ _ _ _ _ _ _ w
  | 1, _ => exact index8_1 _ _ _ _ _ _ _ _ w
  | 2, _ => exact index8_2 _ _ _ _ _ _ _ _ w
  | 3, _ => exact index8_3 _ _ _ _ _ _ _ _ w
  | 4, _ => exact index8_4 _ _ _ _ _ _ _ _ w
  | 5, _ => exact index8_5 _ _ _ _ _ _ _ _ w
  | 6, _ => exact index8_6 _ _ _ _ _ _ _ _ w
  | 7, _ => exact index8_7 _ _ _ _ _ _ _ _ w

set_option maxRecDepth 100000 in
set_option maxHeartbeats 1000000 in
theorem usedSlots_any (k h c : Int) (s : Nat → Int) (w : World) :
    Calls Tryd.prog 50 #[frameV k h c s] w fun e w' => e = .returned (.int .i64 (posTo s 8 : Nat)) ∧ Ext none1 w w' := by
  unfold frameV
  have hix := fun j hj w => index8 s j hj w
  go_enter Tryd.func50, Tryd.ntmps50
  go_wp2
  go_loop [3, 5, 8] (fun n x i => ∃ j : Nat, j ≤ 8 ∧ i = .int .i64 j ∧ n = .int .i64 (posTo s j : Nat)) (fun _ _ i => 8 - (intOf i).toNat)
  case atStart => exact ⟨0, by omega, rfl, rfl⟩
  case round =>
    obtain ⟨j, hj, rfl, rfl⟩ := hrel
    have hle := posTo_le s j
    by_cases hlt : j < 8
    · have hi := fun w => hix j hlt w
      have Hst : Hid (posTo s (j + 1) = if 0 < s j then posTo s j + 1 else posTo s j) := rfl
      clear hix
      by_cases hp : 0 < s j
      · have Hst' : Hid (posTo s (j + 1) = posTo s j + 1) := by show _ = _; rw [Hst.out, if_pos hp]
        clear Hst
        go_wp2
        go_round
        case rel => exact ⟨j + 1, by omega, by go_num, by rw [Hst'.out]; go_num⟩
        case measure => simp [intOf]; omega
      · have Hst' : Hid (posTo s (j + 1) = posTo s j) := by show _ = _; rw [Hst.out, if_neg hp]
        clear Hst
        go_wp2
        go_round
        case rel => exact ⟨j + 1, by omega, by go_num, by rw [Hst'.out]⟩
        case measure => simp [intOf]; omega
    · have e : j = 8 := by omega
      subst e
      go_wp2
      go_ret
      exact ⟨rfl, (Ext.refl _ _).alloc _⟩
end Go.Proofs.YtbagfepdmmfegaaDoor
