import Derived.Test.YtbagfepdmmfegaaDoorK21
import Derived.Laws.ResultCell
import Derived.Laws.Rows
set_option linter.unusedVariables false
set_option linter.unusedSimpArgs false
namespace Go.Proofs.YtbagfepdmmfegaaDoor
open Go.RowKit

theorem resultsR_stats (tmps : Array Value) (w : World) (g : Nat) (c0 c1 : Value) (e : Value) (hp : tmps.getD 6 undef = .pointer (some ⟨g, 0, none⟩)) (h7 : tmps.getD 7 undef = e) (hg : w.heap[g]? = some (.cells #[c0, c1] 44 (0, 0))) :
    (results Tryd.f70 tmps).run Tryd.prog w = .ok (.tuple #[.agg #[c0, c1], e]) w := by
  have hl := run_loadVar_row (P := Tryd.prog) w g 44 44 #[c0, c1] (0, 0) _ hg Tryd.underlying44 rfl (by kernel_rfl)
  rw [results_cell_tmp rfl, hp, h7]
  simp [asAddr, hl, Result.andThen]

set_option maxHeartbeats 2000000 in
theorem refStats_no (w : World) (r bf bz cap : Nat) (p : Option Addr) (S : Ti.St) (h c : Int) (hR : RefAt w r bf bz p cap S) (hno : h < 0 ∨ S.heaps < h ∨ c < 0 ∨ 3 ≤ c) :
    Calls Tryd.prog 70 #[.pointer (some ⟨r, 0, none⟩), .int .i64 h, .int .i64 c] w fun e w' => e = .returned (.tuple #[.agg #[.int .i64 0, .int .i64 0], .int .i64 1]) ∧ Ext none1 w w' := by
  have cr0 : w.cell? ⟨r, 0, none⟩ = some (.int .i64 S.heaps) := by rw [cell_of hR.hd]; rfl
  have hrl := lt_of_heap hR.hd
  have hbx : (w.alloc (.cells #[.int .i64 0, .int .i64 0] 44)).heap[w.heap.size]? = some (.cells #[.int .i64 0, .int .i64 0] 44 (0, 0)) := heap_alloc_new _ _
  by_cases a1 : h < 0
  · have hd1 : decide (h < 0) = true := decide_eq_true a1
    go_enter Tryd.func70, Tryd.ntmps70
    go_wp2
    exact bodyPost_ret (resultsR_stats _ _ w.heap.size _ _ _ rfl rfl hbx) rfl ⟨rfl, (Ext.refl _ _).alloc _⟩
  have hd1 : decide (h < 0) = false := decide_eq_false a1
  by_cases a2 : S.heaps < h
  · have hd2 : decide (S.heaps < h) = true := decide_eq_true a2
    go_enter Tryd.func70, Tryd.ntmps70
    go_wp2
    exact bodyPost_ret (resultsR_stats _ _ w.heap.size _ _ _ rfl rfl hbx) rfl ⟨rfl, (Ext.refl _ _).alloc _⟩
  have hd2 : decide (S.heaps < h) = false := decide_eq_false a2
  by_cases a3 : c < 0
  · have hd3 : decide (c < 0) = true := decide_eq_true a3
    go_enter Tryd.func70, Tryd.ntmps70
    go_wp2
    exact bodyPost_ret (resultsR_stats _ _ w.heap.size _ _ _ rfl rfl hbx) rfl ⟨rfl, (Ext.refl _ _).alloc _⟩
  have hd3 : decide (c < 0) = false := decide_eq_false a3
  have a4 : 3 ≤ c := by omega
  have hd4 : decide (3 ≤ c) = true := decide_eq_true a4
  go_enter Tryd.func70, Tryd.ntmps70
  go_wp2
  exact bodyPost_ret (resultsR_stats _ _ w.heap.size _ _ _ rfl rfl hbx) rfl ⟨rfl, (Ext.refl _ _).alloc _⟩

theorem refStats_is (W : World) (r : Nat) (fp : Nat → Prop) (S : Ti.St) (a b : Int) (h : RefIs W r fp S) :
    Calls Tryd.prog 70 #[.pointer (some ⟨r, 0, none⟩), .int .i64 a, .int .i64 b] W fun e W' => e = .returned (.tuple #[.agg #[.int .i64 (S.stats a b).1.1, .int .i64 (S.stats a b).1.2], .int .i64 (S.stats a b).2]) ∧ Ext none1 W W' := by
  obtain ⟨hI, bf, bz, p, cap, hR, hA, f1, f2, f3, f4⟩ := h
  unfold Ti.St.stats
  by_cases hno : a < 0 ∨ S.heaps < a ∨ b < 0 ∨ 3 ≤ b
  · rw [if_pos hno]; exact refStats_no W r bf bz cap p S a b hR hno
  · rw [if_neg hno]; exact refStats_any W r bf bz cap p S a b hR (Bd.of S hI.toInv0) (by omega) (by omega) (by omega) (by omega)
theorem refFrames_is (W : World) (r : Nat) (fp : Nat → Prop) (S : Ti.St) (h : RefIs W r fp S) :
    Calls Tryd.prog 71 #[.pointer (some ⟨r, 0, none⟩)] W fun e W' => e = .returned (.int .i64 (S.freeFrames : Nat)) ∧ Ext none1 W W' := by
  obtain ⟨hI, bf, bz, p, cap, hR, hA, f1, f2, f3, f4⟩ := h
  exact freeFrames_any W r bf bz cap p S hR (Bd.of S hI.toInv0)

set_option maxRecDepth 100000 in
set_option maxHeartbeats 4000000 in
theorem done_malloc {PA : World → Nat → (Nat → Prop) → Ti.St → Prop} {big : Prop} (F : Face PA big) (W : World) (x r : Nat) (fp : Nat → Prop) (S : Ti.St) (hp : PairAt PA W x r fp S) (on a b h n s : Int) (hb : big) :
    Calls Tryd.prog 45 #[.agg #[.pointer (some ⟨x, 0, none⟩), .pointer (some ⟨r, 0, none⟩)], .agg #[.int .i64 6, .int .i64 on, .int .i64 a, .int .i64 b, .int .i64 h, .int .i64 n, .int .i64 s]] W fun e W' =>
      e = .returned (.bool true) ∧ ∃ S', PPost PA W W' x r fp S' := by
  obtain ⟨⟨fx, fr, h1, h2, h3, h4⟩, hl, hp0⟩ := hp
  have lx : ∀ k, fx k → k < W.heap.size := fun k hk => hl k ((h4 k).2 (.inl hk))
  have hI := h2.inv
  go_enter Tryd.func45, Tryd.ntmps45
  go_wp2_with fail
  obtain ⟨b0, b1⟩ := boxes W (.cells #[.pointer (some ⟨x, 0, none⟩), .pointer (some ⟨r, 0, none⟩)] 85) (.cells #[.int .i64 6, .int .i64 on, .int .i64 a, .int .i64 b, .int .i64 h, .int .i64 n, .int .i64 s] 65)
  have hE0 : Ext none1 W ((W.alloc (.cells #[.pointer (some ⟨x, 0, none⟩), .pointer (some ⟨r, 0, none⟩)] 85)).alloc (.cells #[.int .i64 6, .int .i64 on, .int .i64 a, .int .i64 b, .int .i64 h, .int .i64 n, .int .i64 s] 65)) := ((Ext.refl _ _).alloc _).alloc _
  generalize ((W.alloc (.cells #[.pointer (some ⟨x, 0, none⟩), .pointer (some ⟨r, 0, none⟩)] 85)).alloc (.cells #[.int .i64 6, .int .i64 on, .int .i64 a, .int .i64 b, .int .i64 h, .int .i64 n, .int .i64 s] 65)) = W0 at *
  refine (F.malloc W0 x fx S a b (F.keep h1 hE0 (fun _ _ x => x) (fun x => x)) hI (.inr hb)).mono ?_
  rintro e W1 ⟨rfl, hx⟩
  have hE1 : Ext fx W0 W1 := let ⟨_, _, e, _⟩ := hx; e
  have b0 := hE1.keep b0 (fun hh => by have := lx _ hh; omega)
  have b1 := hE1.keep b1 (fun hh => by have := lx _ hh; omega)
  have c0 := cell_of b0 1
  have c2 := cell_of b1 2
  have c3 := cell_of b1 3
  simp at c0 c2 c3
  have hr1 := (h2.keep hE0 (fun _ _ x => x)).keep hE1 (fun k hk hh => h3 k hh hk)
  go_wp2_with fail
  refine (refMalloc_is W1 r fr S a b hr1).mono ?_
  rintro e W2 ⟨rfl, hr⟩
  have hP := PPost.before hE0 (PPost.of F h3 h4 (fun k hk => Nat.lt_of_lt_of_le (hl k hk) hE0.size) (Nat.lt_of_lt_of_le (Nat.lt_of_le_of_lt (Nat.zero_le _) h2.lt.1) hE0.size) hp0 hx hr)
  clear b0 b1 c0 c2 c3 hr1 hE1 hE0 hx hr
  go_wp2_with fail
  refine (num_any _ _).mono ?_
  rintro e W3 ⟨rfl, rfl⟩
  go_wp2_with fail
  go_ret
  exact ⟨by simp, _, hP⟩

set_option maxRecDepth 100000 in
set_option maxHeartbeats 4000000 in
theorem done_frames {PA : World → Nat → (Nat → Prop) → Ti.St → Prop} {big : Prop} (F : Face PA big) (W : World) (x r : Nat) (fp : Nat → Prop) (S : Ti.St) (hp : PairAt PA W x r fp S) (on a b h n s : Int) :
    Calls Tryd.prog 45 #[.agg #[.pointer (some ⟨x, 0, none⟩), .pointer (some ⟨r, 0, none⟩)], .agg #[.int .i64 8, .int .i64 on, .int .i64 a, .int .i64 b, .int .i64 h, .int .i64 n, .int .i64 s]] W fun e W' =>
      e = .returned (.bool true) ∧ ∃ S', PPost PA W W' x r fp S' := by
  have hp' := hp
  obtain ⟨⟨fx, fr, h1, h2, h3, h4⟩, hl, hp0⟩ := hp
  have hI := h2.inv
  go_enter Tryd.func45, Tryd.ntmps45
  go_wp2_with fail
  obtain ⟨b0, b1⟩ := boxes W (.cells #[.pointer (some ⟨x, 0, none⟩), .pointer (some ⟨r, 0, none⟩)] 85) (.cells #[.int .i64 8, .int .i64 on, .int .i64 a, .int .i64 b, .int .i64 h, .int .i64 n, .int .i64 s] 65)
  have hE0 : Ext none1 W ((W.alloc (.cells #[.pointer (some ⟨x, 0, none⟩), .pointer (some ⟨r, 0, none⟩)] 85)).alloc (.cells #[.int .i64 8, .int .i64 on, .int .i64 a, .int .i64 b, .int .i64 h, .int .i64 n, .int .i64 s] 65)) := ((Ext.refl _ _).alloc _).alloc _
  generalize ((W.alloc (.cells #[.pointer (some ⟨x, 0, none⟩), .pointer (some ⟨r, 0, none⟩)] 85)).alloc (.cells #[.int .i64 8, .int .i64 on, .int .i64 a, .int .i64 b, .int .i64 h, .int .i64 n, .int .i64 s] 65)) = W0 at *
  refine (F.frames W0 x fx S (F.keep h1 hE0 (fun _ _ x => x) (fun x => x)) hI).mono ?_
  rintro e W1 ⟨rfl, hE1⟩
  have b0 := hE1.keep b0 (fun x => x)
  have c0 := cell_of b0 1
  simp at c0
  have Hr : Hid _ := refFrames_is W1 r fr S (h2.keep (hE0.trans hE1) (fun _ _ x => x))
  have hE01 := hE0.trans hE1
  clear h1 h2 b0 b1
  go_wp2_with fail
  refine Calls.mono Hr.out ?_
  rintro e W2 ⟨rfl, hE2⟩
  have Hfin : Hid (∃ S', PPost PA W W2 x r fp S') := ⟨S, PPost.same F hp' (hE01.trans hE2)⟩
  clear Hr hE01 c0
  go_wp2_with fail
  go_ret
  exact ⟨by simp, Hfin.out⟩

set_option maxRecDepth 100000 in
set_option maxHeartbeats 4000000 in
theorem done_stats {PA : World → Nat → (Nat → Prop) → Ti.St → Prop} {big : Prop} (F : Face PA big) (W : World) (x r : Nat) (fp : Nat → Prop) (S : Ti.St) (hp : PairAt PA W x r fp S) (on a b h n s : Int) :
    Calls Tryd.prog 45 #[.agg #[.pointer (some ⟨x, 0, none⟩), .pointer (some ⟨r, 0, none⟩)], .agg #[.int .i64 7, .int .i64 on, .int .i64 a, .int .i64 b, .int .i64 h, .int .i64 n, .int .i64 s]] W fun e W' =>
      e = .returned (.bool true) ∧ ∃ S', PPost PA W W' x r fp S' := by
  have hp' := hp
  obtain ⟨⟨fx, fr, h1, h2, h3, h4⟩, hl, hp0⟩ := hp
  have hI := h2.inv
  go_enter Tryd.func45, Tryd.ntmps45
  go_wp2_with fail
  obtain ⟨b0, b1⟩ := boxes W (.cells #[.pointer (some ⟨x, 0, none⟩), .pointer (some ⟨r, 0, none⟩)] 85) (.cells #[.int .i64 7, .int .i64 on, .int .i64 a, .int .i64 b, .int .i64 h, .int .i64 n, .int .i64 s] 65)
  have hE0 : Ext none1 W ((W.alloc (.cells #[.pointer (some ⟨x, 0, none⟩), .pointer (some ⟨r, 0, none⟩)] 85)).alloc (.cells #[.int .i64 7, .int .i64 on, .int .i64 a, .int .i64 b, .int .i64 h, .int .i64 n, .int .i64 s] 65)) := ((Ext.refl _ _).alloc _).alloc _
  generalize ((W.alloc (.cells #[.pointer (some ⟨x, 0, none⟩), .pointer (some ⟨r, 0, none⟩)] 85)).alloc (.cells #[.int .i64 7, .int .i64 on, .int .i64 a, .int .i64 b, .int .i64 h, .int .i64 n, .int .i64 s] 65)) = W0 at *
  refine (F.stats W0 x fx S a b (F.keep h1 hE0 (fun _ _ x => x) (fun x => x)) hI).mono ?_
  rintro e W1 ⟨rfl, hE1⟩
  have b0 := hE1.keep b0 (fun x => x)
  have b1 := hE1.keep b1 (fun x => x)
  have z0 := lt_of_heap b0
  have z1 := lt_of_heap b1
  have c0 := cell_of b0 1
  have c2 := cell_of b1 2
  have c3 := cell_of b1 3
  simp at c0 c2 c3
  have Hr : Hid (∀ o : Obj, _) := fun o => refStats_is (W1.alloc o) r fr S a b ((h2.keep (hE0.trans hE1) (fun _ _ x => x)).keep ((Ext.refl none1 _).alloc o) (fun _ _ x => x))
  have hE01 := hE0.trans hE1
  have hbox : ∀ o : Obj, (W1.alloc o).heap[W1.heap.size]? = some o := fun o => heap_alloc_new _ _
  clear h1 h2 b0 b1
  generalize (S.stats a b).1.1 = s1 at *
  generalize (S.stats a b).1.2 = s2 at *
  generalize (S.stats a b).2 = s3 at *
  go_wp2_with fail
  refine Calls.mono (Hr.out _) ?_
  rintro e W2 ⟨rfl, hE2⟩
  have k0 := hE2.keep (hbox _) (fun x => x)
  have y0 := cell_of k0 0
  have y1 := cell_of k0 1
  simp at y0 y1
  have hl2 := lt_of_heap k0
  have Hfin : Hid (∀ W3, Ext none1 W2 W3 → ∃ S', PPost PA W W3 x r fp S') := fun W3 hE3 => ⟨S, PPost.same F hp' (((hE01.alloc _).trans hE2).trans hE3)⟩
  clear Hr hE01 hbox k0 c0 c2 c3
  go_wp2_with fail
  refine (num_any _ _).mono ?_
  rintro e W3 ⟨rfl, rfl⟩
  go_wp2_with fail
  go_ret
  exact ⟨by simp, Hfin.out _ ((Ext.refl _ _).alloc _)⟩
end Go.Proofs.YtbagfepdmmfegaaDoor

namespace Go.Proofs.YtbagfepdmmfegaaDoor
open Go.RowKit

theorem done_larges {PA : World → Nat → (Nat → Prop) → Ti.St → Prop} {big : Prop} (F : Face PA big) (hbig : big) (W : World) (x r : Nat) (fp : Nat → Prop) (S : Ti.St) (hp : PairAt PA W x r fp S) (k on a b h n s : Int) (hk : k ≤ 8) (a0 : -9223372036854775808 ≤ a) (a1 : a ≤ 9223372036854775807) :
    Calls Tryd.prog 45 #[.agg #[.pointer (some ⟨x, 0, none⟩), .pointer (some ⟨r, 0, none⟩)], .agg #[.int .i64 k, .int .i64 on, .int .i64 a, .int .i64 b, .int .i64 h, .int .i64 n, .int .i64 s]] W fun e W' =>
      e = .returned (.bool true) ∧ ∃ S', PPost PA W W' x r fp S' := by
  by_cases e6 : k = 6
  · subst e6; exact done_malloc F W x r fp S hp on a b h n s hbig
  · by_cases e7 : k = 7
    · subst e7; exact done_stats F W x r fp S hp on a b h n s
    · by_cases e8 : k = 8
      · subst e8; exact done_frames F W x r fp S hp on a b h n s
      · exact done_smalls F W x r fp S hp k on a b h n s (by omega) a0 a1

theorem larges_any (W : World) (sv : Value) (ops : List O7) (hG : GlobAt W) (hs : ScriptAt W sv ops) (hn : ops.length ≤ 2513169434843) (hok : ∀ o ∈ ops, o.ok) :
    Calls Tryd.prog 4 #[sv] W fun e W' => e = .returned (.bool true) ∧ Ext none1 W W' := by
  have H : Hid _ := plays_any face W sv ops 8 hG hs hn hok (by omega) (by omega) (fun o h1 ho W x r fp S hp => done_larges face trivial W x r fp S hp o.k o.on o.a o.b o.h o.n o.s h1 ho.2.2.1 ho.2.2.2)
  clear hs hok hG
  go_enter Tryd.func4, Tryd.ntmps4
  go_wp2_with fail
  refine Calls.mono H.out ?_
  rintro e W' ⟨rfl, hE⟩
  go_wp2
  go_ret
  exact ⟨rfl, hE⟩
end Go.Proofs.YtbagfepdmmfegaaDoor
