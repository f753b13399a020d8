import Derived.Test.YtbagfepdmmfegaaDoorK05
set_option linter.unusedVariables false
set_option linter.unusedSimpArgs false
namespace Go.Proofs.YtbagfepdmmfegaaDoor
open Go.RowKit

theorem num_any (e : Int) (w : World) : Calls Tryd.prog 65 #[.int .i64 e] w fun r w' => r = .returned (.int .i64 e) ∧ w = w' := by
  go_enter Tryd.func65, Tryd.ntmps65
  go_wp2
  go_ret
  exact ⟨rfl, rfl⟩

/-- which of n things a raw number speaks of -/
def pickI (c n : Int) : Int := if c < 0 then (-(c + 1)) % n else c % n
theorem pickI_bd (c n : Int) (hn : 0 < n) : 0 ≤ pickI c n ∧ pickI c n < n := by
  unfold pickI
  split
  · exact ⟨Int.emod_nonneg _ (by omega), Int.emod_lt_of_pos _ hn⟩
  · exact ⟨Int.emod_nonneg _ (by omega), Int.emod_lt_of_pos _ hn⟩

set_option maxHeartbeats 2000000 in
theorem pick_any (c n : Int) (w : World) (c1 : -9223372036854775808 ≤ c) (c2 : c ≤ 9223372036854775807) (n1 : 0 < n) (n2 : n ≤ 9223372036854775807) :
    Calls Tryd.prog 46 #[.int .i64 c, .int .i64 n] w fun e w' => e = .returned (.int .i64 (pickI c n)) ∧ w = w' := by
  by_cases h : c < 0
  · have hd : pickI c n = (-(c + 1)) % n := if_pos h
    have ht : (-(c + 1)).tmod n = (-(c + 1)) % n := Int.tmod_eq_emod_of_nonneg (by omega)
    have hb : 0 ≤ (-(c + 1)) % n ∧ (-(c + 1)) % n < n := ⟨Int.emod_nonneg _ (by omega), Int.emod_lt_of_pos _ n1⟩
    go_enter Tryd.func46, Tryd.ntmps46
    go_wp2
    go_ret
    rw [hd]
    exact ⟨rfl, rfl⟩
  · have hd : pickI c n = c % n := if_neg h
    have hb : 0 ≤ c % n ∧ c % n < n := ⟨Int.emod_nonneg _ (by omega), Int.emod_lt_of_pos _ n1⟩
    go_enter Tryd.func46, Tryd.ntmps46
    go_wp2
    go_ret
    exact ⟨rfl, rfl⟩
end Go.Proofs.YtbagfepdmmfegaaDoor

/- THE DOCUMENT'S TITHE, by what blocks it has ('fp'). -/
namespace Go.Proofs.YtbagfepdmmfegaaDoor
open Go.RowKit

structure RefIs (W : World) (r : Nat) (fp : Nat → Prop) (S : Ti.St) : Prop where
  inv : Ti.Inv S
  el : ∃ bf bz p cap, RefAt W r bf bz p cap S ∧ Apart4 r bf bz p ∧ fp r ∧ fp bf ∧ fp bz ∧ (S.blocks ≠ [] → ∀ x, p = some x → fp x.block)

theorem RefIs.keep {W W' : World} {r : Nat} {fp X : Nat → Prop} {S : Ti.St} (h : RefIs W r fp S) (hE : Ext X W W') (hx : ∀ k, fp k → ¬ X k) : RefIs W' r fp S := by
  obtain ⟨hI, bf, bz, p, cap, hR, hA, f1, f2, f3, f4⟩ := h
  refine ⟨hI, bf, bz, p, cap, ⟨hE.keep hR.hd (hx _ f1), hR.sups.keep hE (hx _ f2), hR.bytes.keep hE (hx _ f3), fun k hk => ?_, hR.le⟩, hA, f1, f2, f3, f4⟩
  obtain ⟨bb, c, f, e1, e2, e3⟩ := hR.blocks k hk
  exact ⟨bb, c, f, e1, hE.keep e2 (hx _ (f4 (fun e => by rw [e] at hk; cases hk) _ e1)), e3⟩

theorem RefIs.lt {W : World} {r : Nat} {fp : Nat → Prop} {S : Ti.St} (h : RefIs W r fp S) : r < W.heap.size ∧ fp r := by
  obtain ⟨hI, bf, bz, p, cap, hR, hA, f1, f2, f3, f4⟩ := h
  exact ⟨lt_of_heap hR.hd, f1⟩

/-- what a call leaves -/
def RPost (W W' : World) (r : Nat) (fp : Nat → Prop) (S' : Ti.St) : Prop :=
  ∃ fp', RefIs W' r fp' S' ∧ Ext fp W W' ∧ ∀ k, fp' k → fp k ∨ (W.heap.size ≤ k ∧ k < W'.heap.size)

theorem RPost.of {W W' : World} {r bf bz cap : Nat} {p : Option Addr} {fp : Nat → Prop} {S S' : Ti.St} (hI : Ti.Inv S') (hR : RefAt W r bf bz p cap S) (f1 : fp r) (f2 : fp bf) (f3 : fp bz) (f4 : S.blocks ≠ [] → ∀ x, p = some x → fp x.block)
    (h : RefPost W W' r bf bz p S') : RPost W W' r fp S' := by
  obtain ⟨p', cap', hR', hA', hp', hE⟩ := h
  refine ⟨fun k => fp k ∨ (W.heap.size ≤ k ∧ k < W'.heap.size), ⟨hI, bf, bz, p', cap', hR', hA', .inl f1, .inl f2, .inl f3, fun hb x hx => ?_⟩, hE.mono (fun k _ hk => by rcases hk with rfl | rfl | rfl <;> assumption), fun k hk => hk⟩
  rcases hp' with ⟨rfl, cap2, hR2⟩ | hp'
  · refine .inl (f4 (fun e => ?_) x hx)
    have h1 := hR.hd
    rw [hR2.hd] at h1
    simp at h1
    rw [e] at h1
    exact hb (List.eq_nil_of_length_eq_zero (by simpa using h1.2.2.2.2.1.1))
  · refine .inr ⟨hp' x hx, ?_⟩
    obtain ⟨bb, c, f, e1, e2, _⟩ := hR'.blocks 0 (List.length_pos_iff.2 hb)
    rw [e1] at hx
    obtain rfl := Option.some.inj hx
    exact lt_of_heap e2

theorem refMalloc_is (W : World) (r : Nat) (fp : Nat → Prop) (S : Ti.St) (a b : Int) (h : RefIs W r fp S) :
    Calls Tryd.prog 66 #[.pointer (some ⟨r, 0, none⟩), .int .i64 a, .int .i64 b] W fun e W' => e = .returned (.tuple #[.int .i64 (S.malloc a b).1.1, .int .i64 (S.malloc a b).1.2]) ∧ RPost W W' r fp (S.malloc a b).2 := by
  have hI' := Ti.inv_malloc S h.inv a b
  have h' := h
  obtain ⟨hI, bf, bz, p, cap, hR, hA, f1, f2, f3, f4⟩ := h
  unfold Ti.St.malloc at hI' ⊢
  by_cases h1 : a < 0 ∨ 1000 < a ∨ b < 1 ∨ 256 < b
  · rw [if_pos h1]
    refine (refMalloc_arg W r a b h1).mono ?_
    rintro e W' ⟨rfl, rfl⟩
    exact ⟨rfl, fp, h', Ext.refl _ _, fun k hk => .inl hk⟩
  · rw [if_neg h1] at hI' ⊢
    by_cases h2 : 32 < b
    · rw [if_pos h2] at hI' ⊢
      refine (refMalloc_large W r bf bz cap p S a b hR hI hA (by omega) (by omega) h2 (by omega)).mono ?_
      rintro e W' ⟨rfl, hp⟩
      exact ⟨rfl, RPost.of hI' hR f1 f2 f3 f4 hp⟩
    · rw [if_neg h2] at hI' ⊢
      refine (refMalloc_small W r bf bz cap p S a b hR hI hA (by omega) (by omega) (by omega) (by omega)).mono ?_
      rintro e W' ⟨rfl, hp⟩
      exact ⟨rfl, RPost.of hI' hR f1 f2 f3 f4 hp⟩

theorem refFree_is (W : World) (r : Nat) (fp : Nat → Prop) (S : Ti.St) (a : Int) (h : RefIs W r fp S) :
    Calls Tryd.prog 67 #[.pointer (some ⟨r, 0, none⟩), .int .i64 a] W fun e W' => e = .returned (.int .i64 (S.freeAt a).1) ∧ RPost W W' r fp (S.freeAt a).2 := by
  have hI' := Ti.inv_free S h.inv a
  have h' := h
  obtain ⟨hI, bf, bz, p, cap, hR, hA, f1, f2, f3, f4⟩ := h
  by_cases h1 : Ti.atI S.blocks a < 0
  · have he : S.freeAt a = (3, S) := if_pos h1
    rw [he]
    refine (refFree_no W r bf bz cap p S a hR hI h1).mono ?_
    rintro e W' ⟨rfl, rfl⟩
    exact ⟨rfl, fp, h', Ext.refl _ _, fun k hk => .inl hk⟩
  · by_cases h2 : 32 < (Ti.bk S.blocks (Ti.atI S.blocks a).toNat).2
    · refine (refFree_large W r bf bz cap p S a hR hI hA (by omega) h2).mono ?_
      rintro e W' ⟨rfl, hp⟩
      exact ⟨rfl, RPost.of hI' hR f1 f2 f3 f4 hp⟩
    · refine (refFree_small W r bf bz cap p S a hR hI hA (by omega) h2).mono ?_
      rintro e W' ⟨rfl, hp⟩
      exact ⟨rfl, RPost.of hI' hR f1 f2 f3 f4 hp⟩

theorem refNew_is (W : World) (h s n : Int) (hok : Ti.okConfig h n s = true) :
    Calls Tryd.prog 64 #[.agg #[.int .i64 h, .int .i64 n, .int .i64 s]] W fun e W' => ∃ r fp, e = .returned (.tuple #[.pointer (some ⟨r, 0, none⟩), .int .i64 0]) ∧ RefIs W' r fp (Ti.newSt h n s) ∧ Ext none1 W W' ∧ ∀ k, fp k → W.heap.size ≤ k ∧ k < W'.heap.size := by
  simp [Ti.okConfig] at hok
  obtain ⟨m, rfl⟩ := Int.eq_ofNat_of_zero_le (show 0 ≤ n by omega)
  refine (refNew_ok W h s m (by omega) (by omega) (by omega) (by omega) (by omega) (by omega)).mono ?_
  rintro e W' ⟨r, bf, bz, rfl, hR, hA, hb, hE⟩
  obtain ⟨_, q1, _⟩ := hR.sups
  obtain ⟨_, q2, _⟩ := hR.bytes
  have q0 := lt_of_heap hR.hd
  have q1 := lt_of_heap q1
  have q2 := lt_of_heap q2
  refine ⟨r, fun k => k = r ∨ k = bf ∨ k = bz, rfl, ⟨Ti.inv_new h s m (by omega) (by omega) (by omega) (by omega) (by omega) (by omega), bf, bz, none, 0, hR, hA, .inl rfl, .inr (.inl rfl), .inr (.inr rfl), fun _ x hx => by cases hx⟩, hE, ?_⟩
  rintro k (rfl | rfl | rfl) <;> omega
end Go.Proofs.YtbagfepdmmfegaaDoor
