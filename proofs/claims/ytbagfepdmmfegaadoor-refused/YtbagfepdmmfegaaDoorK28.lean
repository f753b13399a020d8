import Derived.Test.YtbagfepdmmfegaaDoorK26
set_option linter.unusedVariables false
set_option linter.unusedSimpArgs false
/- REFUSED. -/
namespace Go.Proofs.YtbagfepdmmfegaaDoor
open Go.RowKit

theorem S3At.shape {W : World} {sv : Value} {ops : List O3} (h : S3At W sv ops) : ∃ pa cap, sv = .slice pa ops.length cap ∧
    ∀ (i : Nat) (o : O3), ops[i]? = some o → ∃ ad, pa = some ad ∧ ad.block < W.heap.size ∧ W.cell? (ad.add (i * 3)) = some (.int .i64 o.k) ∧ W.cell? (ad.add (i * 3 + 1)) = some (.int .i64 o.a) ∧ W.cell? (ad.add (i * 3 + 2)) = some (.int .i64 o.b) := by
  rcases h with ⟨rfl, rfl⟩ | ⟨ad, cap, rfl, h2⟩
  · exact ⟨none, 0, rfl, fun i o ho => by cases ho⟩
  · refine ⟨some ad, cap, rfl, fun i o ho => ?_⟩
    obtain ⟨c0, c1, c2⟩ := h2 i o ho
    refine ⟨ad, rfl, ?_, c0, c1, c2⟩
    rcases Nat.lt_or_ge ad.block W.heap.size with h | h
    · exact h
    · unfold World.cell? at c0
      rw [Array.getElem?_eq_none (by rw [add_block]; exact h)] at c0
      cases c0

theorem add_off (ad : Addr) (k : Nat) : (ad.add k).off = ad.off + k := by unfold Addr.add; split <;> simp_all
theorem cell_add (W : World) (ad : Addr) (k j : Nat) (hj : 0 < j) : W.cell? ⟨(ad.add k).block, (ad.add k).off + j, none⟩ = W.cell? (ad.add (k + j)) := by
  have hs : (ad.add (k + j)).spot = none := by unfold Addr.add; rw [if_neg (by omega)]
  unfold World.cell?
  rw [add_block, add_block, add_off, add_off, hs, Nat.add_assoc]

theorem stats_ok (S : Ti.St) (a c : Int) (a0 : 0 ≤ a) (a1 : a ≤ S.heaps) (c0 : 0 ≤ c) (c1 : c ≤ 2) : S.stats a c = ((S.held a c, S.charged a c), 0) := by
  unfold Ti.St.stats
  rw [if_neg (by omega)]

/-- a farm is opened -/
theorem Mid.opened {PA : World → Nat → (Nat → Prop) → Ti.St → Prop} (F : Face PA True) (W : World) (hG : GlobAt W) (h n s : Int)
    (h0 : -9223372036854775808 ≤ h) (h1 : h ≤ 9223372036854775807) (n0 : -9223372036854775808 ≤ n) (n1 : n ≤ 9223372036854775807) (s0 : -9223372036854775808 ≤ s) (s1 : s ≤ 9223372036854775807) :
    Calls Tryd.prog 14 #[.agg #[.int .i64 h, .int .i64 n, .int .i64 s]] W fun e W' => ∃ fl, e = .returned (.pointer (some ⟨fl, 0, none⟩)) ∧ Ext none1 W W' ∧
      Mid PA W W' fl (1 + pickI h 4) (1 + pickI n 16) (1 + pickI s 4) (Ti.newSt (1 + pickI h 4) (1 + pickI n 16) (1 + pickI s 4)) [] := by
  have hw : 0 < W.heap.size := let ⟨_, h⟩ := hG; h.2
  have ph := pickI_bd h 4 (by omega)
  have pn := pickI_bd n 16 (by omega)
  have ps := pickI_bd s 4 (by omega)
  refine (opened_any F W hG hw h n s h0 h1 n0 n1 s0 s1).mono ?_
  rintro e W' ⟨fl, x, fp, rfl, hp, hE, hfp, hfl, hb⟩
  have hok : Ti.okConfig (1 + pickI h 4) (1 + pickI n 16) (1 + pickI s 4) = true := by
    unfold Ti.okConfig
    simp only [Bool.and_eq_true, decide_eq_true_eq]
    omega
  refine ⟨fl, rfl, hE, _, FarmAt.opened hok hp hw hfp hfl hb, hE, fun k hk => ?_, hfl, rfl, ?_, rfl, ?_⟩
  · rcases hk with hk | hk
    · exact (hfp k hk).1
    · rw [hk]; exact hfl
  · simp only [Ti.newSt, List.length_replicate]; omega
  · have := Ti.lean_new (1 + pickI h 4) (1 + pickI s 4) (1 + pickI n 16).toNat (by omega)
    rwa [Int.toNat_of_nonneg (by omega)] at this

set_option maxRecDepth 100000 in
set_option maxHeartbeats 8000000 in
theorem refused_any (W : World) (hG : GlobAt W) (h n s : Int)
    (h0 : -9223372036854775808 ≤ h) (h1 : h ≤ 9223372036854775807) (n0 : -9223372036854775808 ≤ n) (n1 : n ≤ 9223372036854775807) (s0 : -9223372036854775808 ≤ s) (s1 : s ≤ 9223372036854775807)
    (sv : Value) (ops : List O3) (hs : S3At W sv ops) (hlen : ops.length ≤ 5864062014806) (hok : ∀ o ∈ ops, o.ok)
    (wk sz : Int) (k0 : -9223372036854775808 ≤ wk) (k1 : wk ≤ 9223372036854775807) (z0 : -9223372036854775808 ≤ sz) (z1 : sz ≤ 9223372036854775807) :
    Calls Tryd.prog 8 #[.agg #[.int .i64 h, .int .i64 n, .int .i64 s], sv, .int .i64 wk, .int .i64 sz] W fun e W' => e = .returned (.bool true) ∧ Ext none1 W W' := by
  obtain ⟨pa, cap, rfl, hcells⟩ := hs.shape
  obtain ⟨N, hN⟩ : ∃ N, ops.length = N := ⟨_, rfl⟩
  have HC : Hid _ := hcells
  have HO : Hid _ := hok
  have HN : Hid (ops.length = N) := hN
  rw [hN] at hlen ⊢
  clear hs hcells hok hN
  have hE0 : Ext none1 W (W.alloc (.cells #[.int .i64 h, .int .i64 n, .int .i64 s] 26)) := (Ext.refl _ _).alloc _
  have HE0 : Hid _ := hE0
  have Hop : Hid _ := Mid.opened face _ (hG.keep hE0 (fun x => x)) h n s h0 h1 n0 n1 s0 s1
  clear hE0 hG
  go_enter Tryd.func8, Tryd.ntmps8
  go_wp2_with fail
  refine Calls.mono Hop.out ?_
  clear Hop
  rintro e W1 ⟨fl, rfl, hE1, hm⟩
  have HM : Hid _ := hm
  have HE1 : Hid _ := HE0.out.trans hE1
  clear hm hE1
  go_wp2
  go_loopw [10, 11] (fun i _ wr => ∃ (k : Nat) (S : Ti.St) (L : List Hb), k ≤ N ∧ i = .int .i64 k ∧ Mid PrIs (W.alloc (.cells #[.int .i64 h, .int .i64 n, .int .i64 s] 26)) wr fl (1 + pickI h 4) (1 + pickI n 16) (1 + pickI s 4) S L)
    (fun i _ _ => N - (intOf i).toNat)
  case atStart => exact ⟨0, _, _, Nat.zero_le _, rfl, HM.out⟩
  case round =>
    obtain ⟨k, S, L, hk, rfl, hm⟩ := hrel
    have hEr : Ext none1 W wr := HE0.out.trans (let ⟨_, _, e, _⟩ := hm; e)
    by_cases hlt : k < N
    · obtain ⟨o, ho⟩ : ∃ o, ops[k]? = some o := ⟨_, List.getElem?_eq_getElem (by rw [HN.out]; exact hlt)⟩
      have hook := HO.out o (List.mem_of_getElem? ho)
      obtain ⟨ad, rfl, hadl, q0, q1, q2⟩ := HC.out k o ho
      have hcw : ∀ j, wr.cell? (ad.add j) = W.cell? (ad.add j) := fun j => World.cell?_of_block (hEr.block _ (by rw [add_block]; exact hadl) (fun x => x))
      rw [← hcw] at q0 q1 q2
      rw [← cell_add _ _ _ _ (by omega)] at q1 q2
      have hlt' : (k : Int) < (N : Int) := by omega
      have Hst : Hid _ := Mid.step face hm o hook
      clear hm HM hcw
      go_wp2_with fail
      refine Calls.mono Hst.out ?_
      clear Hst
      rintro e V ⟨rfl, S', L', hm', _, _⟩
      have HM' : Hid _ := hm'
      clear hm' q0 q1 q2
      go_wp2
      go_roundw
      case rel => exact ⟨k + 1, S', L', by omega, by go_num, HM'.out⟩
      case measure => simp [intOf]; omega
    · obtain rfl : k = N := by omega
      obtain ⟨foot, hA, hE, hf, hfl2, e1, e2, e3, _⟩ := hm
      obtain ⟨x, v, fp, b1, b2, b3, b4, b5, b6, b7⟩ := hA.box
      have hI := hA.ok.inv
      obtain ⟨q, hq⟩ : ∃ q : Nat, pickI wk 1001 = (q : Int) := ⟨(pickI wk 1001).toNat, by have := (pickI_bd wk 1001 (by omega)).1; omega⟩
      have hq2 := pickI_bd wk 1001 (by omega)
      rw [hq] at hq2
      obtain ⟨p, hp⟩ : ∃ p : Nat, pickI sz 32 = (p : Int) := ⟨(pickI sz 32).toNat, by have := (pickI_bd sz 32 (by omega)).1; omega⟩
      have hp2 := pickI_bd sz 32 (by omega)
      rw [hp] at hp2
      have Hq : Hid (∀ w, Calls Tryd.prog 20 #[.int .i64 wk, .int .i64 1001] w fun e w' => e = .returned (.int .i64 (q : Int)) ∧ w = w') := fun w => by rw [← hq]; exact pickK_any wk 1001 w k0 k1 (by omega) (by omega)
      have Hp : Hid (∀ w, Calls Tryd.prog 20 #[.int .i64 sz, .int .i64 32] w fun e w' => e = .returned (.int .i64 (p : Int)) ∧ w = w') := fun w => by rw [← hp]; exact pickK_any sz 32 w z0 z1 (by omega) (by omega)
      clear hq hp
      have y0 := cell_of b1 0
      have y1 := cell_of b1 1
      simp at y0 y1
      have hlf := lt_of_heap b1
      have hr := Ti.refused S hI.toInv0 q (1 + (p : Int)) (by omega) (by omega) (by omega) (by omega)
      obtain ⟨c, hc, hc2, hc3⟩ : ∃ c : Nat, Ti.clsOf (1 + (p : Int)) = (c : Int) ∧ c ≤ 2 ∧ (∀ j : Nat, j < c → 8 * 2 ^ j < 1 + p) ∧ ¬ 8 * 2 ^ c < 1 + p := by
        unfold Ti.clsOf
        by_cases g1 : 1 + (p : Int) ≤ 8
        · exact ⟨0, by rw [if_pos g1]; rfl, by omega, fun j hj => by omega, by omega⟩
        · by_cases g2 : 1 + (p : Int) ≤ 16
          · exact ⟨1, by rw [if_neg g1, if_pos g2]; rfl, by omega, fun j hj => by obtain rfl : j = 0 := by omega
                                                                                  omega, by omega⟩
          · refine ⟨2, by rw [if_neg g1, if_neg g2]; rfl, by omega, fun j hj => ?_, by omega⟩
            rcases (by omega : j = 0 ∨ j = 1) with rfl | rfl <;> omega
      rw [hc] at hr
      have HRf : Hid _ := hr
      have Hb2 : Hid _ := b2
      have HE : Hid _ := HE0.out.trans hE
      have hfpl : ∀ k, fp k → k < wr.heap.size := fun k hk => hA.flt k (b4 k hk)
      have hfpW : ∀ k, fp k → W.heap.size ≤ k := fun k hk => Nat.le_trans HE0.out.size (hf k (b4 k hk))
      clear hr hc hEr hE hA b1 b2 b3 b4 b5 b6 b7 hf HM
      go_wp2_with fail
      refine Calls.mono (Hq.out _) ?_
      rintro e w' ⟨rfl, rfl⟩
      go_wp2_with fail
      refine Calls.mono (Hp.out _) ?_
      rintro e w' ⟨rfl, rfl⟩
      go_wp2
      go_loopw [14] (fun t w' => ∃ j : Nat, t = .int .i64 j ∧ j ≤ c ∧ w' = wr) (fun t _ => 3 - (intOf t).toNat)
      case atStart => exact ⟨0, rfl, by omega, rfl⟩
      case round =>
        obtain ⟨j, rfl, hj, rfl⟩ := hrel
        by_cases hjc : j < c
        · have hlt2 := hc3.1 j hjc
          rcases (by omega : j = 0 ∨ j = 1) with rfl | rfl
          · have hl3 : (8 : Int) < 1 + (p : Int) := by omega
            go_wp2
            go_roundw
            case rel => exact ⟨1, by go_num, by omega, (by first | rfl | trivial)⟩
            case measure => simp [intOf]
          · have hl3 : (16 : Int) < 1 + (p : Int) := by omega
            go_wp2
            go_roundw
            case rel => exact ⟨2, by go_num, by omega, (by first | rfl | trivial)⟩
            case measure => simp [intOf]
        · obtain rfl : j = c := by omega
          have hnl := hc3.2
          have hh : 1 ≤ S.heaps ∧ S.heaps ≤ 4 := by have := pickI_bd h 4 (by omega); omega
          have hz0 : ¬ S.heaps = 0 := by omega
          have hz1 : (S.heaps == 0) = false := beq_eq_false_iff_ne.2 hz0
          have hq0 : 0 ≤ (q : Int) % S.heaps := Int.emod_nonneg _ hz0
          have hq1 : (q : Int) % S.heaps < S.heaps := Int.emod_lt_of_pos _ (by omega)
          have hwr : IntKind.i64.wrap (1 + (q : Int) % S.heaps) = 1 + (q : Int) % S.heaps := by rw [IntKind.wrap_i64]; omega
          clear e1 e2 e3
          rcases (by omega : j = 0 ∨ j = 1 ∨ j = 2) with rfl | rfl | rfl
          · have hl3 : ¬ (8 : Int) < 1 + (p : Int) := by omega
            have HS1 : Hid (S.stats (IntKind.i64.wrap (1 + (q : Int).tmod S.heaps)) 0 = ((S.held (1 + (q : Int) % S.heaps) 0, S.charged (1 + (q : Int) % S.heaps) 0), 0)) := by
              show _ = _
              rw [Int.tmod_eq_emod_of_nonneg (by omega), hwr]
              exact stats_ok S _ 0 (by omega) (by omega) (by omega) (by omega)
            have HS0 : Hid (S.stats 0 0 = ((S.held 0 0, S.charged 0 0), 0)) := stats_ok S 0 0 (by omega) (by omega) (by omega) (by omega)
            have Hst : Hid (∀ w a, Ext none1 wr w → Calls Tryd.prog 18 #[.pointer (some ⟨x, 0, none⟩), .int .i64 a, .int .i64 0] w fun e w' => e = .returned (.tuple #[.agg #[.int .i64 (S.stats a 0).1.1, .int .i64 (S.stats a 0).1.2], .int .i64 (S.stats a 0).2]) ∧ Ext none1 w w' ∧ Ext none1 wr w') := fun w a hE => (face.stats w x fp S a 0 (face.keep Hb2.out hE (fun _ _ x => x) (fun x => x)) hI).mono (fun e w' h => ⟨h.1, h.2, hE.trans h.2⟩)
            have k1 : ∀ (w' : World) (o : Nat), Ext none1 wr w' → w'.cell? ⟨fl, o, none⟩ = wr.cell? ⟨fl, o, none⟩ := fun w' o hE => by
              unfold World.cell?
              simp only [hE.block fl hlf (fun x => x)]
            go_wp2_with fail
            go_region_held3 (fun w' => Ext none1 wr w') (first | assumption | exact (Ext.refl _ _).drew | exact ((Ext.refl _ _).alloc _).drew | exact (Ext.drew (Ext.refl _ _)).alloc _ | exact Ext.alloc (by assumption) _ | exact Ext.setCell (Ext.setCell (by assumption) _ (Or.inr (Nat.le_refl _)) _) _ (Or.inr (Nat.le_refl _)) _)
              (first | (go_at_call 18; refine Calls.mono (Hst.out _ _ (by assumption)) ?_; rintro e w' ⟨rfl, hE5, hE6⟩; try (have hbz := hE5.keep (k := wr.heap.size) (o := .cells #[.int .i64 0, .int .i64 0] 44 (0, 0)) (heap_alloc_new _ _) (fun x => x); have hbc0 := cell_of hbz 0; have hbc1 := cell_of hbz 1; have hbf0 := frozen_of hbz 0; have hbf1 := frozen_of hbz 1; simp at hbc0 hbc1)))
            all_goals simp only [HS1.out]
            · obtain ⟨bx, hbxd⟩ : ∃ bx, bx = w'.heap.size := ⟨_, rfl⟩
              have hbx := heap_alloc_new w' (.cells #[.int .i64 (S.held (1 + (q : Int) % S.heaps) 0), .int .i64 (S.charged (1 + (q : Int) % S.heaps) 0)] 44)
              have hE7 := hE6.alloc (.cells #[.int .i64 (S.held (1 + (q : Int) % S.heaps) 0), .int .i64 (S.charged (1 + (q : Int) % S.heaps) 0)] 44)
              have hbg : wr.heap.size ≤ w'.heap.size := hE6.size
              generalize w'.alloc (.cells #[.int .i64 (S.held (1 + (q : Int) % S.heaps) 0), .int .i64 (S.charged (1 + (q : Int) % S.heaps) 0)] 44) = wA at *
              rw [← hbxd] at hbx hbg ⊢
              clear hE5 hE6 hbxd
              have y2 := cell_of hbx 0
              have y3 := cell_of hbx 1
              simp at y2 y3
              have hbl := lt_of_heap hbx
              have z0 := (k1 wA 0 hE7).trans y0
              clear k1 y0 y1
              have Hs2 : Hid _ := Hst.out wA 0 hE7
              clear Hst
              go_wp2_with fail
              refine Calls.mono Hs2.out ?_
              clear Hs2
              rintro e w2 ⟨rfl, hE8, hE9⟩
              simp only [HS0.out]
              have hz2 : (w2.alloc (.cells #[.int .i64 (S.held 0 0), .int .i64 (S.charged 0 0)] 44)).cell? ⟨fl, 0, none⟩ = some (.pointer (some ⟨x, 0, none⟩)) := by
                rw [← z0]
                exact World.cell?_of_block ((hE8.alloc _).block fl (Nat.lt_of_lt_of_le hlf hE7.size) (fun x => x))
              have hbx2 := (hE8.alloc (.cells #[.int .i64 (S.held 0 0), .int .i64 (S.charged 0 0)] 44)).keep hbx (fun x => x)
              have hby2 := heap_alloc_new w2 (.cells #[.int .i64 (S.held 0 0), .int .i64 (S.charged 0 0)] 44)
              have hEa := hE9.alloc (.cells #[.int .i64 (S.held 0 0), .int .i64 (S.charged 0 0)] 44)
              have hlw2 : wr.heap.size ≤ w2.heap.size := hE9.size
              have Hfr : Hid _ := face.frames _ x fp S (face.keep Hb2.out hEa (fun _ _ x => x) (fun x => x)) hI
              clear hE8 hE9 y2 y3
              go_wp2_with fail
              refine Calls.mono Hfr.out ?_
              clear Hfr
              rintro e w3 ⟨rfl, hE10⟩
              have hz3 : w3.cell? ⟨fl, 0, none⟩ = some (.pointer (some ⟨x, 0, none⟩)) := by
                rw [← hz2]
                exact World.cell?_of_block (hE10.block fl (Nat.lt_of_lt_of_le hlf hEa.size) (fun x => x))
              have hbx3 := hE10.keep hbx2 (fun x => x)
              have hby3 := hE10.keep hby2 (fun x => x)
              have hE11 := hEa.trans hE10
              have Hma : Hid _ := face.malloc w3 x fp S q (1 + (p : Int)) (face.keep Hb2.out hE11 (fun _ _ x => x) (fun x => x)) hI (.inr trivial)
              clear hz2 hE10 hEa hbx2 hby2
              go_wp2_with fail
              refine Calls.mono Hma.out ?_
              clear Hma
              rintro e w4 ⟨rfl, hX⟩
              have hE12 : Ext fp w3 w4 := let ⟨_, _, e, _⟩ := hX; e
              have hbx4 := hE12.keep hbx3 (fun hh => by have := hfpl _ hh; omega)
              have hby4 := hE12.keep hby3 (fun hh => by have := hfpl _ hh; omega)
              have u0 := cell_of hbx4 0
              have u1 := cell_of hbx4 1
              have u2 := cell_of hby4 0
              have u3 := cell_of hby4 1
              simp at u0 u1 u2 u3
              have Hfin : Hid (Ext none1 W w4) := (HE.out.trans hE11).trans' hE12 (fun k hk hh => by have := hfpW _ hh; omega)
              have hR1 : (S.charged (1 + (q : Int) % S.heaps) 0 < S.held (1 + (q : Int) % S.heaps) 0 ∨ S.charged 0 0 < S.held 0 0 ∨ 0 < S.freeFrames) → (S.malloc q (1 + (p : Int))).1.2 = 0 := HRf.out.1
              have hR2 : ¬ (S.charged (1 + (q : Int) % S.heaps) 0 < S.held (1 + (q : Int) % S.heaps) 0 ∨ S.charged 0 0 < S.held 0 0 ∨ 0 < S.freeFrames) → (S.malloc q (1 + (p : Int))).1 = (0, 2) := HRf.out.2
              have hR2 : ¬ (S.charged (1 + (q : Int) % S.heaps) 0 < S.held (1 + (q : Int) % S.heaps) 0 ∨ S.charged 0 0 < S.held 0 0 ∨ 0 < S.freeFrames) → (S.malloc q (1 + (p : Int))).1.2 = 2 := fun hn => by rw [hR2 hn]
              clear HRf hX hE12 hbx4 hby4 hbx3 hby3 hE11 Hb2 HS0 HS1 hz3 z0
              generalize (S.malloc q (1 + (p : Int))).1.2 = m2 at *
              generalize (S.malloc q (1 + (p : Int))).1.1 = m1 at *
              generalize S.held (1 + (q : Int) % S.heaps) 0 = d1 at *
              generalize S.charged (1 + (q : Int) % S.heaps) 0 = d2 at *
              generalize S.held 0 0 = d3 at *
              generalize S.charged 0 0 = d4 at *
              generalize S.freeFrames = ff at *
              by_cases g1 : d2 < d1
              · obtain rfl := hR1 (.inl g1)
                clear hR1 hR2
                go_wp2
                go_ret
                exact ⟨rfl, Hfin.out⟩
              · by_cases g2 : d4 < d3
                · obtain rfl := hR1 (.inr (.inl g2))
                  clear hR1 hR2
                  go_wp2
                  go_ret
                  exact ⟨rfl, Hfin.out⟩
                · by_cases g3 : 0 < ff
                  · obtain rfl := hR1 (.inr (.inr g3))
                    have g4 : (0 : Int) < (ff : Int) := by omega
                    clear hR1 hR2
                    go_wp2
                    go_ret
                    exact ⟨rfl, Hfin.out⟩
                  · obtain rfl := hR2 (fun hh => by rcases hh with hh | hh | hh <;> contradiction)
                    have g4 : ¬ (0 : Int) < (ff : Int) := by omega
                    clear hR1 hR2
                    go_wp2
                    go_ret
                    exact ⟨rfl, Hfin.out⟩
            · obtain ⟨bx, hbxd⟩ : ∃ bx, bx = wr.heap.size := ⟨_, rfl⟩
              have hbx := heap_set (heap_set hbz 0 (.int .i64 (S.held (1 + (q : Int) % S.heaps) 0))) 1 (.int .i64 (S.charged (1 + (q : Int) % S.heaps) 0))
              have hE7 := (hE6.setCell ⟨wr.heap.size, 0, none⟩ (.inr (Nat.le_refl _)) (.int .i64 (S.held (1 + (q : Int) % S.heaps) 0))).setCell ⟨wr.heap.size, 1, none⟩ (.inr (Nat.le_refl _)) (.int .i64 (S.charged (1 + (q : Int) % S.heaps) 0))
              have hbg : wr.heap.size ≤ bx := by omega
              clear hbc0 hbc1 hbf0 hbf1
              generalize (w'.setCell ⟨wr.heap.size, 0, none⟩ (.int .i64 (S.held (1 + (q : Int) % S.heaps) 0))).setCell ⟨wr.heap.size, 1, none⟩ (.int .i64 (S.charged (1 + (q : Int) % S.heaps) 0)) = wA at *
              rw [← hbxd] at hbx ⊢
              have hbx : wA.heap[bx]? = some (.cells #[.int .i64 (S.held (1 + (q : Int) % S.heaps) 0), .int .i64 (S.charged (1 + (q : Int) % S.heaps) 0)] 44 (0, 0)) := hbx
              clear hE5 hE6 hbxd hbz
              have y2 := cell_of hbx 0
              have y3 := cell_of hbx 1
              simp at y2 y3
              have hbl := lt_of_heap hbx
              have z0 := (k1 wA 0 hE7).trans y0
              clear k1 y0 y1
              have Hs2 : Hid _ := Hst.out wA 0 hE7
              clear Hst
              go_wp2_with fail
              refine Calls.mono Hs2.out ?_
              clear Hs2
              rintro e w2 ⟨rfl, hE8, hE9⟩
              simp only [HS0.out]
              have hz2 : (w2.alloc (.cells #[.int .i64 (S.held 0 0), .int .i64 (S.charged 0 0)] 44)).cell? ⟨fl, 0, none⟩ = some (.pointer (some ⟨x, 0, none⟩)) := by
                rw [← z0]
                exact World.cell?_of_block ((hE8.alloc _).block fl (Nat.lt_of_lt_of_le hlf hE7.size) (fun x => x))
              have hbx2 := (hE8.alloc (.cells #[.int .i64 (S.held 0 0), .int .i64 (S.charged 0 0)] 44)).keep hbx (fun x => x)
              have hby2 := heap_alloc_new w2 (.cells #[.int .i64 (S.held 0 0), .int .i64 (S.charged 0 0)] 44)
              have hEa := hE9.alloc (.cells #[.int .i64 (S.held 0 0), .int .i64 (S.charged 0 0)] 44)
              have hlw2 : wr.heap.size ≤ w2.heap.size := hE9.size
              have Hfr : Hid _ := face.frames _ x fp S (face.keep Hb2.out hEa (fun _ _ x => x) (fun x => x)) hI
              clear hE8 hE9 y2 y3
              go_wp2_with fail
              refine Calls.mono Hfr.out ?_
              clear Hfr
              rintro e w3 ⟨rfl, hE10⟩
              have hz3 : w3.cell? ⟨fl, 0, none⟩ = some (.pointer (some ⟨x, 0, none⟩)) := by
                rw [← hz2]
                exact World.cell?_of_block (hE10.block fl (Nat.lt_of_lt_of_le hlf hEa.size) (fun x => x))
              have hbx3 := hE10.keep hbx2 (fun x => x)
              have hby3 := hE10.keep hby2 (fun x => x)
              have hE11 := hEa.trans hE10
              have Hma : Hid _ := face.malloc w3 x fp S q (1 + (p : Int)) (face.keep Hb2.out hE11 (fun _ _ x => x) (fun x => x)) hI (.inr trivial)
              clear hz2 hE10 hEa hbx2 hby2
              go_wp2_with fail
              refine Calls.mono Hma.out ?_
              clear Hma
              rintro e w4 ⟨rfl, hX⟩
              have hE12 : Ext fp w3 w4 := let ⟨_, _, e, _⟩ := hX; e
              have hbx4 := hE12.keep hbx3 (fun hh => by have := hfpl _ hh; omega)
              have hby4 := hE12.keep hby3 (fun hh => by have := hfpl _ hh; omega)
              have u0 := cell_of hbx4 0
              have u1 := cell_of hbx4 1
              have u2 := cell_of hby4 0
              have u3 := cell_of hby4 1
              simp at u0 u1 u2 u3
              have Hfin : Hid (Ext none1 W w4) := (HE.out.trans hE11).trans' hE12 (fun k hk hh => by have := hfpW _ hh; omega)
              have hR1 : (S.charged (1 + (q : Int) % S.heaps) 0 < S.held (1 + (q : Int) % S.heaps) 0 ∨ S.charged 0 0 < S.held 0 0 ∨ 0 < S.freeFrames) → (S.malloc q (1 + (p : Int))).1.2 = 0 := HRf.out.1
              have hR2 : ¬ (S.charged (1 + (q : Int) % S.heaps) 0 < S.held (1 + (q : Int) % S.heaps) 0 ∨ S.charged 0 0 < S.held 0 0 ∨ 0 < S.freeFrames) → (S.malloc q (1 + (p : Int))).1 = (0, 2) := HRf.out.2
              have hR2 : ¬ (S.charged (1 + (q : Int) % S.heaps) 0 < S.held (1 + (q : Int) % S.heaps) 0 ∨ S.charged 0 0 < S.held 0 0 ∨ 0 < S.freeFrames) → (S.malloc q (1 + (p : Int))).1.2 = 2 := fun hn => by rw [hR2 hn]
              clear HRf hX hE12 hbx4 hby4 hbx3 hby3 hE11 Hb2 HS0 HS1 hz3 z0
              generalize (S.malloc q (1 + (p : Int))).1.2 = m2 at *
              generalize (S.malloc q (1 + (p : Int))).1.1 = m1 at *
              generalize S.held (1 + (q : Int) % S.heaps) 0 = d1 at *
              generalize S.charged (1 + (q : Int) % S.heaps) 0 = d2 at *
              generalize S.held 0 0 = d3 at *
              generalize S.charged 0 0 = d4 at *
              generalize S.freeFrames = ff at *
              by_cases g1 : d2 < d1
              · obtain rfl := hR1 (.inl g1)
                clear hR1 hR2
                go_wp2
                go_ret
                exact ⟨rfl, Hfin.out⟩
              · by_cases g2 : d4 < d3
                · obtain rfl := hR1 (.inr (.inl g2))
                  clear hR1 hR2
                  go_wp2
                  go_ret
                  exact ⟨rfl, Hfin.out⟩
                · by_cases g3 : 0 < ff
                  · obtain rfl := hR1 (.inr (.inr g3))
                    have g4 : (0 : Int) < (ff : Int) := by omega
                    clear hR1 hR2
                    go_wp2
                    go_ret
                    exact ⟨rfl, Hfin.out⟩
                  · obtain rfl := hR2 (fun hh => by rcases hh with hh | hh | hh <;> contradiction)
                    have g4 : ¬ (0 : Int) < (ff : Int) := by omega
                    clear hR1 hR2
                    go_wp2
                    go_ret
                    exact ⟨rfl, Hfin.out⟩
          · have hl3 : ¬ (16 : Int) < 1 + (p : Int) := by omega
            have HS1 : Hid (S.stats (IntKind.i64.wrap (1 + (q : Int).tmod S.heaps)) 1 = ((S.held (1 + (q : Int) % S.heaps) 1, S.charged (1 + (q : Int) % S.heaps) 1), 0)) := by
              show _ = _
              rw [Int.tmod_eq_emod_of_nonneg (by omega), hwr]
              exact stats_ok S _ 1 (by omega) (by omega) (by omega) (by omega)
            have HS0 : Hid (S.stats 0 1 = ((S.held 0 1, S.charged 0 1), 0)) := stats_ok S 0 1 (by omega) (by omega) (by omega) (by omega)
            have Hst : Hid (∀ w a, Ext none1 wr w → Calls Tryd.prog 18 #[.pointer (some ⟨x, 0, none⟩), .int .i64 a, .int .i64 1] w fun e w' => e = .returned (.tuple #[.agg #[.int .i64 (S.stats a 1).1.1, .int .i64 (S.stats a 1).1.2], .int .i64 (S.stats a 1).2]) ∧ Ext none1 w w' ∧ Ext none1 wr w') := fun w a hE => (face.stats w x fp S a 1 (face.keep Hb2.out hE (fun _ _ x => x) (fun x => x)) hI).mono (fun e w' h => ⟨h.1, h.2, hE.trans h.2⟩)
            have k1 : ∀ (w' : World) (o : Nat), Ext none1 wr w' → w'.cell? ⟨fl, o, none⟩ = wr.cell? ⟨fl, o, none⟩ := fun w' o hE => by
              unfold World.cell?
              simp only [hE.block fl hlf (fun x => x)]
            go_wp2_with fail
            go_region_held3 (fun w' => Ext none1 wr w') (first | assumption | exact (Ext.refl _ _).drew | exact ((Ext.refl _ _).alloc _).drew | exact (Ext.drew (Ext.refl _ _)).alloc _ | exact Ext.alloc (by assumption) _ | exact Ext.setCell (Ext.setCell (by assumption) _ (Or.inr (Nat.le_refl _)) _) _ (Or.inr (Nat.le_refl _)) _)
              (first | (go_at_call 18; refine Calls.mono (Hst.out _ _ (by assumption)) ?_; rintro e w' ⟨rfl, hE5, hE6⟩; try (have hbz := hE5.keep (k := wr.heap.size) (o := .cells #[.int .i64 0, .int .i64 0] 44 (0, 0)) (heap_alloc_new _ _) (fun x => x); have hbc0 := cell_of hbz 0; have hbc1 := cell_of hbz 1; have hbf0 := frozen_of hbz 0; have hbf1 := frozen_of hbz 1; simp at hbc0 hbc1)))
            all_goals simp only [HS1.out]
            · obtain ⟨bx, hbxd⟩ : ∃ bx, bx = w'.heap.size := ⟨_, rfl⟩
              have hbx := heap_alloc_new w' (.cells #[.int .i64 (S.held (1 + (q : Int) % S.heaps) 1), .int .i64 (S.charged (1 + (q : Int) % S.heaps) 1)] 44)
              have hE7 := hE6.alloc (.cells #[.int .i64 (S.held (1 + (q : Int) % S.heaps) 1), .int .i64 (S.charged (1 + (q : Int) % S.heaps) 1)] 44)
              have hbg : wr.heap.size ≤ w'.heap.size := hE6.size
              generalize w'.alloc (.cells #[.int .i64 (S.held (1 + (q : Int) % S.heaps) 1), .int .i64 (S.charged (1 + (q : Int) % S.heaps) 1)] 44) = wA at *
              rw [← hbxd] at hbx hbg ⊢
              clear hE5 hE6 hbxd
              have y2 := cell_of hbx 0
              have y3 := cell_of hbx 1
              simp at y2 y3
              have hbl := lt_of_heap hbx
              have z0 := (k1 wA 0 hE7).trans y0
              clear k1 y0 y1
              have Hs2 : Hid _ := Hst.out wA 0 hE7
              clear Hst
              go_wp2_with fail
              refine Calls.mono Hs2.out ?_
              clear Hs2
              rintro e w2 ⟨rfl, hE8, hE9⟩
              simp only [HS0.out]
              have hz2 : (w2.alloc (.cells #[.int .i64 (S.held 0 1), .int .i64 (S.charged 0 1)] 44)).cell? ⟨fl, 0, none⟩ = some (.pointer (some ⟨x, 0, none⟩)) := by
                rw [← z0]
                exact World.cell?_of_block ((hE8.alloc _).block fl (Nat.lt_of_lt_of_le hlf hE7.size) (fun x => x))
              have hbx2 := (hE8.alloc (.cells #[.int .i64 (S.held 0 1), .int .i64 (S.charged 0 1)] 44)).keep hbx (fun x => x)
              have hby2 := heap_alloc_new w2 (.cells #[.int .i64 (S.held 0 1), .int .i64 (S.charged 0 1)] 44)
              have hEa := hE9.alloc (.cells #[.int .i64 (S.held 0 1), .int .i64 (S.charged 0 1)] 44)
              have hlw2 : wr.heap.size ≤ w2.heap.size := hE9.size
              have Hfr : Hid _ := face.frames _ x fp S (face.keep Hb2.out hEa (fun _ _ x => x) (fun x => x)) hI
              clear hE8 hE9 y2 y3
              go_wp2_with fail
              refine Calls.mono Hfr.out ?_
              clear Hfr
              rintro e w3 ⟨rfl, hE10⟩
              have hz3 : w3.cell? ⟨fl, 0, none⟩ = some (.pointer (some ⟨x, 0, none⟩)) := by
                rw [← hz2]
                exact World.cell?_of_block (hE10.block fl (Nat.lt_of_lt_of_le hlf hEa.size) (fun x => x))
              have hbx3 := hE10.keep hbx2 (fun x => x)
              have hby3 := hE10.keep hby2 (fun x => x)
              have hE11 := hEa.trans hE10
              have Hma : Hid _ := face.malloc w3 x fp S q (1 + (p : Int)) (face.keep Hb2.out hE11 (fun _ _ x => x) (fun x => x)) hI (.inr trivial)
              clear hz2 hE10 hEa hbx2 hby2
              go_wp2_with fail
              refine Calls.mono Hma.out ?_
              clear Hma
              rintro e w4 ⟨rfl, hX⟩
              have hE12 : Ext fp w3 w4 := let ⟨_, _, e, _⟩ := hX; e
              have hbx4 := hE12.keep hbx3 (fun hh => by have := hfpl _ hh; omega)
              have hby4 := hE12.keep hby3 (fun hh => by have := hfpl _ hh; omega)
              have u0 := cell_of hbx4 0
              have u1 := cell_of hbx4 1
              have u2 := cell_of hby4 0
              have u3 := cell_of hby4 1
              simp at u0 u1 u2 u3
              have Hfin : Hid (Ext none1 W w4) := (HE.out.trans hE11).trans' hE12 (fun k hk hh => by have := hfpW _ hh; omega)
              have hR1 : (S.charged (1 + (q : Int) % S.heaps) 1 < S.held (1 + (q : Int) % S.heaps) 1 ∨ S.charged 0 1 < S.held 0 1 ∨ 0 < S.freeFrames) → (S.malloc q (1 + (p : Int))).1.2 = 0 := HRf.out.1
              have hR2 : ¬ (S.charged (1 + (q : Int) % S.heaps) 1 < S.held (1 + (q : Int) % S.heaps) 1 ∨ S.charged 0 1 < S.held 0 1 ∨ 0 < S.freeFrames) → (S.malloc q (1 + (p : Int))).1 = (0, 2) := HRf.out.2
              have hR2 : ¬ (S.charged (1 + (q : Int) % S.heaps) 1 < S.held (1 + (q : Int) % S.heaps) 1 ∨ S.charged 0 1 < S.held 0 1 ∨ 0 < S.freeFrames) → (S.malloc q (1 + (p : Int))).1.2 = 2 := fun hn => by rw [hR2 hn]
              clear HRf hX hE12 hbx4 hby4 hbx3 hby3 hE11 Hb2 HS0 HS1 hz3 z0
              generalize (S.malloc q (1 + (p : Int))).1.2 = m2 at *
              generalize (S.malloc q (1 + (p : Int))).1.1 = m1 at *
              generalize S.held (1 + (q : Int) % S.heaps) 1 = d1 at *
              generalize S.charged (1 + (q : Int) % S.heaps) 1 = d2 at *
              generalize S.held 0 1 = d3 at *
              generalize S.charged 0 1 = d4 at *
              generalize S.freeFrames = ff at *
              by_cases g1 : d2 < d1
              · obtain rfl := hR1 (.inl g1)
                clear hR1 hR2
                go_wp2
                go_ret
                exact ⟨rfl, Hfin.out⟩
              · by_cases g2 : d4 < d3
                · obtain rfl := hR1 (.inr (.inl g2))
                  clear hR1 hR2
                  go_wp2
                  go_ret
                  exact ⟨rfl, Hfin.out⟩
                · by_cases g3 : 0 < ff
                  · obtain rfl := hR1 (.inr (.inr g3))
                    have g4 : (0 : Int) < (ff : Int) := by omega
                    clear hR1 hR2
                    go_wp2
                    go_ret
                    exact ⟨rfl, Hfin.out⟩
                  · obtain rfl := hR2 (fun hh => by rcases hh with hh | hh | hh <;> contradiction)
                    have g4 : ¬ (0 : Int) < (ff : Int) := by omega
                    clear hR1 hR2
                    go_wp2
                    go_ret
                    exact ⟨rfl, Hfin.out⟩
            · obtain ⟨bx, hbxd⟩ : ∃ bx, bx = wr.heap.size := ⟨_, rfl⟩
              have hbx := heap_set (heap_set hbz 0 (.int .i64 (S.held (1 + (q : Int) % S.heaps) 1))) 1 (.int .i64 (S.charged (1 + (q : Int) % S.heaps) 1))
              have hE7 := (hE6.setCell ⟨wr.heap.size, 0, none⟩ (.inr (Nat.le_refl _)) (.int .i64 (S.held (1 + (q : Int) % S.heaps) 1))).setCell ⟨wr.heap.size, 1, none⟩ (.inr (Nat.le_refl _)) (.int .i64 (S.charged (1 + (q : Int) % S.heaps) 1))
              have hbg : wr.heap.size ≤ bx := by omega
              clear hbc0 hbc1 hbf0 hbf1
              generalize (w'.setCell ⟨wr.heap.size, 0, none⟩ (.int .i64 (S.held (1 + (q : Int) % S.heaps) 1))).setCell ⟨wr.heap.size, 1, none⟩ (.int .i64 (S.charged (1 + (q : Int) % S.heaps) 1)) = wA at *
              rw [← hbxd] at hbx ⊢
              have hbx : wA.heap[bx]? = some (.cells #[.int .i64 (S.held (1 + (q : Int) % S.heaps) 1), .int .i64 (S.charged (1 + (q : Int) % S.heaps) 1)] 44 (0, 0)) := hbx
              clear hE5 hE6 hbxd hbz
              have y2 := cell_of hbx 0
              have y3 := cell_of hbx 1
              simp at y2 y3
              have hbl := lt_of_heap hbx
              have z0 := (k1 wA 0 hE7).trans y0
              clear k1 y0 y1
              have Hs2 : Hid _ := Hst.out wA 0 hE7
              clear Hst
              go_wp2_with fail
              refine Calls.mono Hs2.out ?_
              clear Hs2
              rintro e w2 ⟨rfl, hE8, hE9⟩
              simp only [HS0.out]
              have hz2 : (w2.alloc (.cells #[.int .i64 (S.held 0 1), .int .i64 (S.charged 0 1)] 44)).cell? ⟨fl, 0, none⟩ = some (.pointer (some ⟨x, 0, none⟩)) := by
                rw [← z0]
                exact World.cell?_of_block ((hE8.alloc _).block fl (Nat.lt_of_lt_of_le hlf hE7.size) (fun x => x))
              have hbx2 := (hE8.alloc (.cells #[.int .i64 (S.held 0 1), .int .i64 (S.charged 0 1)] 44)).keep hbx (fun x => x)
              have hby2 := heap_alloc_new w2 (.cells #[.int .i64 (S.held 0 1), .int .i64 (S.charged 0 1)] 44)
              have hEa := hE9.alloc (.cells #[.int .i64 (S.held 0 1), .int .i64 (S.charged 0 1)] 44)
              have hlw2 : wr.heap.size ≤ w2.heap.size := hE9.size
              have Hfr : Hid _ := face.frames _ x fp S (face.keep Hb2.out hEa (fun _ _ x => x) (fun x => x)) hI
              clear hE8 hE9 y2 y3
              go_wp2_with fail
              refine Calls.mono Hfr.out ?_
              clear Hfr
              rintro e w3 ⟨rfl, hE10⟩
              have hz3 : w3.cell? ⟨fl, 0, none⟩ = some (.pointer (some ⟨x, 0, none⟩)) := by
                rw [← hz2]
                exact World.cell?_of_block (hE10.block fl (Nat.lt_of_lt_of_le hlf hEa.size) (fun x => x))
              have hbx3 := hE10.keep hbx2 (fun x => x)
              have hby3 := hE10.keep hby2 (fun x => x)
              have hE11 := hEa.trans hE10
              have Hma : Hid _ := face.malloc w3 x fp S q (1 + (p : Int)) (face.keep Hb2.out hE11 (fun _ _ x => x) (fun x => x)) hI (.inr trivial)
              clear hz2 hE10 hEa hbx2 hby2
              go_wp2_with fail
              refine Calls.mono Hma.out ?_
              clear Hma
              rintro e w4 ⟨rfl, hX⟩
              have hE12 : Ext fp w3 w4 := let ⟨_, _, e, _⟩ := hX; e
              have hbx4 := hE12.keep hbx3 (fun hh => by have := hfpl _ hh; omega)
              have hby4 := hE12.keep hby3 (fun hh => by have := hfpl _ hh; omega)
              have u0 := cell_of hbx4 0
              have u1 := cell_of hbx4 1
              have u2 := cell_of hby4 0
              have u3 := cell_of hby4 1
              simp at u0 u1 u2 u3
              have Hfin : Hid (Ext none1 W w4) := (HE.out.trans hE11).trans' hE12 (fun k hk hh => by have := hfpW _ hh; omega)
              have hR1 : (S.charged (1 + (q : Int) % S.heaps) 1 < S.held (1 + (q : Int) % S.heaps) 1 ∨ S.charged 0 1 < S.held 0 1 ∨ 0 < S.freeFrames) → (S.malloc q (1 + (p : Int))).1.2 = 0 := HRf.out.1
              have hR2 : ¬ (S.charged (1 + (q : Int) % S.heaps) 1 < S.held (1 + (q : Int) % S.heaps) 1 ∨ S.charged 0 1 < S.held 0 1 ∨ 0 < S.freeFrames) → (S.malloc q (1 + (p : Int))).1 = (0, 2) := HRf.out.2
              have hR2 : ¬ (S.charged (1 + (q : Int) % S.heaps) 1 < S.held (1 + (q : Int) % S.heaps) 1 ∨ S.charged 0 1 < S.held 0 1 ∨ 0 < S.freeFrames) → (S.malloc q (1 + (p : Int))).1.2 = 2 := fun hn => by rw [hR2 hn]
              clear HRf hX hE12 hbx4 hby4 hbx3 hby3 hE11 Hb2 HS0 HS1 hz3 z0
              generalize (S.malloc q (1 + (p : Int))).1.2 = m2 at *
              generalize (S.malloc q (1 + (p : Int))).1.1 = m1 at *
              generalize S.held (1 + (q : Int) % S.heaps) 1 = d1 at *
              generalize S.charged (1 + (q : Int) % S.heaps) 1 = d2 at *
              generalize S.held 0 1 = d3 at *
              generalize S.charged 0 1 = d4 at *
              generalize S.freeFrames = ff at *
              by_cases g1 : d2 < d1
              · obtain rfl := hR1 (.inl g1)
                clear hR1 hR2
                go_wp2
                go_ret
                exact ⟨rfl, Hfin.out⟩
              · by_cases g2 : d4 < d3
                · obtain rfl := hR1 (.inr (.inl g2))
                  clear hR1 hR2
                  go_wp2
                  go_ret
                  exact ⟨rfl, Hfin.out⟩
                · by_cases g3 : 0 < ff
                  · obtain rfl := hR1 (.inr (.inr g3))
                    have g4 : (0 : Int) < (ff : Int) := by omega
                    clear hR1 hR2
                    go_wp2
                    go_ret
                    exact ⟨rfl, Hfin.out⟩
                  · obtain rfl := hR2 (fun hh => by rcases hh with hh | hh | hh <;> contradiction)
                    have g4 : ¬ (0 : Int) < (ff : Int) := by omega
                    clear hR1 hR2
                    go_wp2
                    go_ret
                    exact ⟨rfl, Hfin.out⟩
          · have hl3 : ¬ (32 : Int) < 1 + (p : Int) := by omega
            have HS1 : Hid (S.stats (IntKind.i64.wrap (1 + (q : Int).tmod S.heaps)) 2 = ((S.held (1 + (q : Int) % S.heaps) 2, S.charged (1 + (q : Int) % S.heaps) 2), 0)) := by
              show _ = _
              rw [Int.tmod_eq_emod_of_nonneg (by omega), hwr]
              exact stats_ok S _ 2 (by omega) (by omega) (by omega) (by omega)
            have HS0 : Hid (S.stats 0 2 = ((S.held 0 2, S.charged 0 2), 0)) := stats_ok S 0 2 (by omega) (by omega) (by omega) (by omega)
            have Hst : Hid (∀ w a, Ext none1 wr w → Calls Tryd.prog 18 #[.pointer (some ⟨x, 0, none⟩), .int .i64 a, .int .i64 2] w fun e w' => e = .returned (.tuple #[.agg #[.int .i64 (S.stats a 2).1.1, .int .i64 (S.stats a 2).1.2], .int .i64 (S.stats a 2).2]) ∧ Ext none1 w w' ∧ Ext none1 wr w') := fun w a hE => (face.stats w x fp S a 2 (face.keep Hb2.out hE (fun _ _ x => x) (fun x => x)) hI).mono (fun e w' h => ⟨h.1, h.2, hE.trans h.2⟩)
            have k1 : ∀ (w' : World) (o : Nat), Ext none1 wr w' → w'.cell? ⟨fl, o, none⟩ = wr.cell? ⟨fl, o, none⟩ := fun w' o hE => by
              unfold World.cell?
              simp only [hE.block fl hlf (fun x => x)]
            go_wp2_with fail
            go_region_held3 (fun w' => Ext none1 wr w') (first | assumption | exact (Ext.refl _ _).drew | exact ((Ext.refl _ _).alloc _).drew | exact (Ext.drew (Ext.refl _ _)).alloc _ | exact Ext.alloc (by assumption) _ | exact Ext.setCell (Ext.setCell (by assumption) _ (Or.inr (Nat.le_refl _)) _) _ (Or.inr (Nat.le_refl _)) _)
              (first | (go_at_call 18; refine Calls.mono (Hst.out _ _ (by assumption)) ?_; rintro e w' ⟨rfl, hE5, hE6⟩; try (have hbz := hE5.keep (k := wr.heap.size) (o := .cells #[.int .i64 0, .int .i64 0] 44 (0, 0)) (heap_alloc_new _ _) (fun x => x); have hbc0 := cell_of hbz 0; have hbc1 := cell_of hbz 1; have hbf0 := frozen_of hbz 0; have hbf1 := frozen_of hbz 1; simp at hbc0 hbc1)))
            all_goals simp only [HS1.out]
            · obtain ⟨bx, hbxd⟩ : ∃ bx, bx = w'.heap.size := ⟨_, rfl⟩
              have hbx := heap_alloc_new w' (.cells #[.int .i64 (S.held (1 + (q : Int) % S.heaps) 2), .int .i64 (S.charged (1 + (q : Int) % S.heaps) 2)] 44)
              have hE7 := hE6.alloc (.cells #[.int .i64 (S.held (1 + (q : Int) % S.heaps) 2), .int .i64 (S.charged (1 + (q : Int) % S.heaps) 2)] 44)
              have hbg : wr.heap.size ≤ w'.heap.size := hE6.size
              generalize w'.alloc (.cells #[.int .i64 (S.held (1 + (q : Int) % S.heaps) 2), .int .i64 (S.charged (1 + (q : Int) % S.heaps) 2)] 44) = wA at *
              rw [← hbxd] at hbx hbg ⊢
              clear hE5 hE6 hbxd
              have y2 := cell_of hbx 0
              have y3 := cell_of hbx 1
              simp at y2 y3
              have hbl := lt_of_heap hbx
              have z0 := (k1 wA 0 hE7).trans y0
              clear k1 y0 y1
              have Hs2 : Hid _ := Hst.out wA 0 hE7
              clear Hst
              go_wp2_with fail
              refine Calls.mono Hs2.out ?_
              clear Hs2
              rintro e w2 ⟨rfl, hE8, hE9⟩
              simp only [HS0.out]
              have hz2 : (w2.alloc (.cells #[.int .i64 (S.held 0 2), .int .i64 (S.charged 0 2)] 44)).cell? ⟨fl, 0, none⟩ = some (.pointer (some ⟨x, 0, none⟩)) := by
                rw [← z0]
                exact World.cell?_of_block ((hE8.alloc _).block fl (Nat.lt_of_lt_of_le hlf hE7.size) (fun x => x))
              have hbx2 := (hE8.alloc (.cells #[.int .i64 (S.held 0 2), .int .i64 (S.charged 0 2)] 44)).keep hbx (fun x => x)
              have hby2 := heap_alloc_new w2 (.cells #[.int .i64 (S.held 0 2), .int .i64 (S.charged 0 2)] 44)
              have hEa := hE9.alloc (.cells #[.int .i64 (S.held 0 2), .int .i64 (S.charged 0 2)] 44)
              have hlw2 : wr.heap.size ≤ w2.heap.size := hE9.size
              have Hfr : Hid _ := face.frames _ x fp S (face.keep Hb2.out hEa (fun _ _ x => x) (fun x => x)) hI
              clear hE8 hE9 y2 y3
              go_wp2_with fail
              refine Calls.mono Hfr.out ?_
              clear Hfr
              rintro e w3 ⟨rfl, hE10⟩
              have hz3 : w3.cell? ⟨fl, 0, none⟩ = some (.pointer (some ⟨x, 0, none⟩)) := by
                rw [← hz2]
                exact World.cell?_of_block (hE10.block fl (Nat.lt_of_lt_of_le hlf hEa.size) (fun x => x))
              have hbx3 := hE10.keep hbx2 (fun x => x)
              have hby3 := hE10.keep hby2 (fun x => x)
              have hE11 := hEa.trans hE10
              have Hma : Hid _ := face.malloc w3 x fp S q (1 + (p : Int)) (face.keep Hb2.out hE11 (fun _ _ x => x) (fun x => x)) hI (.inr trivial)
              clear hz2 hE10 hEa hbx2 hby2
              go_wp2_with fail
              refine Calls.mono Hma.out ?_
              clear Hma
              rintro e w4 ⟨rfl, hX⟩
              have hE12 : Ext fp w3 w4 := let ⟨_, _, e, _⟩ := hX; e
              have hbx4 := hE12.keep hbx3 (fun hh => by have := hfpl _ hh; omega)
              have hby4 := hE12.keep hby3 (fun hh => by have := hfpl _ hh; omega)
              have u0 := cell_of hbx4 0
              have u1 := cell_of hbx4 1
              have u2 := cell_of hby4 0
              have u3 := cell_of hby4 1
              simp at u0 u1 u2 u3
              have Hfin : Hid (Ext none1 W w4) := (HE.out.trans hE11).trans' hE12 (fun k hk hh => by have := hfpW _ hh; omega)
              have hR1 : (S.charged (1 + (q : Int) % S.heaps) 2 < S.held (1 + (q : Int) % S.heaps) 2 ∨ S.charged 0 2 < S.held 0 2 ∨ 0 < S.freeFrames) → (S.malloc q (1 + (p : Int))).1.2 = 0 := HRf.out.1
              have hR2 : ¬ (S.charged (1 + (q : Int) % S.heaps) 2 < S.held (1 + (q : Int) % S.heaps) 2 ∨ S.charged 0 2 < S.held 0 2 ∨ 0 < S.freeFrames) → (S.malloc q (1 + (p : Int))).1 = (0, 2) := HRf.out.2
              have hR2 : ¬ (S.charged (1 + (q : Int) % S.heaps) 2 < S.held (1 + (q : Int) % S.heaps) 2 ∨ S.charged 0 2 < S.held 0 2 ∨ 0 < S.freeFrames) → (S.malloc q (1 + (p : Int))).1.2 = 2 := fun hn => by rw [hR2 hn]
              clear HRf hX hE12 hbx4 hby4 hbx3 hby3 hE11 Hb2 HS0 HS1 hz3 z0
              generalize (S.malloc q (1 + (p : Int))).1.2 = m2 at *
              generalize (S.malloc q (1 + (p : Int))).1.1 = m1 at *
              generalize S.held (1 + (q : Int) % S.heaps) 2 = d1 at *
              generalize S.charged (1 + (q : Int) % S.heaps) 2 = d2 at *
              generalize S.held 0 2 = d3 at *
              generalize S.charged 0 2 = d4 at *
              generalize S.freeFrames = ff at *
              by_cases g1 : d2 < d1
              · obtain rfl := hR1 (.inl g1)
                clear hR1 hR2
                go_wp2
                go_ret
                exact ⟨rfl, Hfin.out⟩
              · by_cases g2 : d4 < d3
                · obtain rfl := hR1 (.inr (.inl g2))
                  clear hR1 hR2
                  go_wp2
                  go_ret
                  exact ⟨rfl, Hfin.out⟩
                · by_cases g3 : 0 < ff
                  · obtain rfl := hR1 (.inr (.inr g3))
                    have g4 : (0 : Int) < (ff : Int) := by omega
                    clear hR1 hR2
                    go_wp2
                    go_ret
                    exact ⟨rfl, Hfin.out⟩
                  · obtain rfl := hR2 (fun hh => by rcases hh with hh | hh | hh <;> contradiction)
                    have g4 : ¬ (0 : Int) < (ff : Int) := by omega
                    clear hR1 hR2
                    go_wp2
                    go_ret
                    exact ⟨rfl, Hfin.out⟩
            · obtain ⟨bx, hbxd⟩ : ∃ bx, bx = wr.heap.size := ⟨_, rfl⟩
              have hbx := heap_set (heap_set hbz 0 (.int .i64 (S.held (1 + (q : Int) % S.heaps) 2))) 1 (.int .i64 (S.charged (1 + (q : Int) % S.heaps) 2))
              have hE7 := (hE6.setCell ⟨wr.heap.size, 0, none⟩ (.inr (Nat.le_refl _)) (.int .i64 (S.held (1 + (q : Int) % S.heaps) 2))).setCell ⟨wr.heap.size, 1, none⟩ (.inr (Nat.le_refl _)) (.int .i64 (S.charged (1 + (q : Int) % S.heaps) 2))
              have hbg : wr.heap.size ≤ bx := by omega
              clear hbc0 hbc1 hbf0 hbf1
              generalize (w'.setCell ⟨wr.heap.size, 0, none⟩ (.int .i64 (S.held (1 + (q : Int) % S.heaps) 2))).setCell ⟨wr.heap.size, 1, none⟩ (.int .i64 (S.charged (1 + (q : Int) % S.heaps) 2)) = wA at *
              rw [← hbxd] at hbx ⊢
              have hbx : wA.heap[bx]? = some (.cells #[.int .i64 (S.held (1 + (q : Int) % S.heaps) 2), .int .i64 (S.charged (1 + (q : Int) % S.heaps) 2)] 44 (0, 0)) := hbx
              clear hE5 hE6 hbxd hbz
              have y2 := cell_of hbx 0
              have y3 := cell_of hbx 1
              simp at y2 y3
              have hbl := lt_of_heap hbx
              have z0 := (k1 wA 0 hE7).trans y0
              clear k1 y0 y1
              have Hs2 : Hid _ := Hst.out wA 0 hE7
              clear Hst
              go_wp2_with fail
              refine Calls.mono Hs2.out ?_
              clear Hs2
              rintro e w2 ⟨rfl, hE8, hE9⟩
              simp only [HS0.out]
              have hz2 : (w2.alloc (.cells #[.int .i64 (S.held 0 2), .int .i64 (S.charged 0 2)] 44)).cell? ⟨fl, 0, none⟩ = some (.pointer (some ⟨x, 0, none⟩)) := by
                rw [← z0]
                exact World.cell?_of_block ((hE8.alloc _).block fl (Nat.lt_of_lt_of_le hlf hE7.size) (fun x => x))
              have hbx2 := (hE8.alloc (.cells #[.int .i64 (S.held 0 2), .int .i64 (S.charged 0 2)] 44)).keep hbx (fun x => x)
              have hby2 := heap_alloc_new w2 (.cells #[.int .i64 (S.held 0 2), .int .i64 (S.charged 0 2)] 44)
              have hEa := hE9.alloc (.cells #[.int .i64 (S.held 0 2), .int .i64 (S.charged 0 2)] 44)
              have hlw2 : wr.heap.size ≤ w2.heap.size := hE9.size
              have Hfr : Hid _ := face.frames _ x fp S (face.keep Hb2.out hEa (fun _ _ x => x) (fun x => x)) hI
              clear hE8 hE9 y2 y3
              go_wp2_with fail
              refine Calls.mono Hfr.out ?_
              clear Hfr
              rintro e w3 ⟨rfl, hE10⟩
              have hz3 : w3.cell? ⟨fl, 0, none⟩ = some (.pointer (some ⟨x, 0, none⟩)) := by
                rw [← hz2]
                exact World.cell?_of_block (hE10.block fl (Nat.lt_of_lt_of_le hlf hEa.size) (fun x => x))
              have hbx3 := hE10.keep hbx2 (fun x => x)
              have hby3 := hE10.keep hby2 (fun x => x)
              have hE11 := hEa.trans hE10
              have Hma : Hid _ := face.malloc w3 x fp S q (1 + (p : Int)) (face.keep Hb2.out hE11 (fun _ _ x => x) (fun x => x)) hI (.inr trivial)
              clear hz2 hE10 hEa hbx2 hby2
              go_wp2_with fail
              refine Calls.mono Hma.out ?_
              clear Hma
              rintro e w4 ⟨rfl, hX⟩
              have hE12 : Ext fp w3 w4 := let ⟨_, _, e, _⟩ := hX; e
              have hbx4 := hE12.keep hbx3 (fun hh => by have := hfpl _ hh; omega)
              have hby4 := hE12.keep hby3 (fun hh => by have := hfpl _ hh; omega)
              have u0 := cell_of hbx4 0
              have u1 := cell_of hbx4 1
              have u2 := cell_of hby4 0
              have u3 := cell_of hby4 1
              simp at u0 u1 u2 u3
              have Hfin : Hid (Ext none1 W w4) := (HE.out.trans hE11).trans' hE12 (fun k hk hh => by have := hfpW _ hh; omega)
              have hR1 : (S.charged (1 + (q : Int) % S.heaps) 2 < S.held (1 + (q : Int) % S.heaps) 2 ∨ S.charged 0 2 < S.held 0 2 ∨ 0 < S.freeFrames) → (S.malloc q (1 + (p : Int))).1.2 = 0 := HRf.out.1
              have hR2 : ¬ (S.charged (1 + (q : Int) % S.heaps) 2 < S.held (1 + (q : Int) % S.heaps) 2 ∨ S.charged 0 2 < S.held 0 2 ∨ 0 < S.freeFrames) → (S.malloc q (1 + (p : Int))).1 = (0, 2) := HRf.out.2
              have hR2 : ¬ (S.charged (1 + (q : Int) % S.heaps) 2 < S.held (1 + (q : Int) % S.heaps) 2 ∨ S.charged 0 2 < S.held 0 2 ∨ 0 < S.freeFrames) → (S.malloc q (1 + (p : Int))).1.2 = 2 := fun hn => by rw [hR2 hn]
              clear HRf hX hE12 hbx4 hby4 hbx3 hby3 hE11 Hb2 HS0 HS1 hz3 z0
              generalize (S.malloc q (1 + (p : Int))).1.2 = m2 at *
              generalize (S.malloc q (1 + (p : Int))).1.1 = m1 at *
              generalize S.held (1 + (q : Int) % S.heaps) 2 = d1 at *
              generalize S.charged (1 + (q : Int) % S.heaps) 2 = d2 at *
              generalize S.held 0 2 = d3 at *
              generalize S.charged 0 2 = d4 at *
              generalize S.freeFrames = ff at *
              by_cases g1 : d2 < d1
              · obtain rfl := hR1 (.inl g1)
                clear hR1 hR2
                go_wp2
                go_ret
                exact ⟨rfl, Hfin.out⟩
              · by_cases g2 : d4 < d3
                · obtain rfl := hR1 (.inr (.inl g2))
                  clear hR1 hR2
                  go_wp2
                  go_ret
                  exact ⟨rfl, Hfin.out⟩
                · by_cases g3 : 0 < ff
                  · obtain rfl := hR1 (.inr (.inr g3))
                    have g4 : (0 : Int) < (ff : Int) := by omega
                    clear hR1 hR2
                    go_wp2
                    go_ret
                    exact ⟨rfl, Hfin.out⟩
                  · obtain rfl := hR2 (fun hh => by rcases hh with hh | hh | hh <;> contradiction)
                    have g4 : ¬ (0 : Int) < (ff : Int) := by omega
                    clear hR1 hR2
                    go_wp2
                    go_ret
                    exact ⟨rfl, Hfin.out⟩
end Go.Proofs.YtbagfepdmmfegaaDoor
