import Derived.Test.YtbagfepdmmfegaaDoorK31
import Derived.Test.YtbagfepdmmfegaaDoorK32
import Derived.Test.YtbagfepdmmfegaaDoorK34
import Derived.Test.YtbagfepdmmfegaaDoorK35
set_option linter.unusedVariables false
set_option linter.unusedSimpArgs false
/- EMPTIED. -/
namespace Go.Proofs.YtbagfepdmmfegaaDoor
open Go.RowKit Go.Shelf

set_option maxRecDepth 100000 in
set_option maxHeartbeats 8000000 in
theorem emptied_any (W : World) (hG : GlobAt W) (h n s : Int)
    (h0 : -9223372036854775808 ≤ h) (h1 : h ≤ 9223372036854775807) (n0 : -9223372036854775808 ≤ n) (n1 : n ≤ 9223372036854775807) (s0 : -9223372036854775808 ≤ s) (s1 : s ≤ 9223372036854775807)
    (sv : Value) (ops : List O3) (hs : S3At W sv ops) (hlen : ops.length ≤ 5864062014806) (hok : ∀ o ∈ ops, o.ok) (ov : Value) (is : List Int) (his : I1At W ov is) (hib : ∀ n ∈ is, inI64 n) :
    Calls Tryd.prog 11 #[.agg #[.int .i64 h, .int .i64 n, .int .i64 s], sv, ov] W fun e W' => e = .returned (.bool true) ∧ Ext none1 W W' := by
  obtain ⟨pa, cap, rfl, hcells⟩ := hs.shape
  obtain ⟨pi, capi, rfl, hints⟩ := his.shape
  obtain ⟨N, hN⟩ : ∃ N, ops.length = N := ⟨_, rfl⟩
  obtain ⟨M, hM⟩ : ∃ M, is.length = M := ⟨_, rfl⟩
  have HC : Hid _ := hcells
  have HO : Hid _ := hok
  have HN : Hid (ops.length = N) := hN
  have HI : Hid _ := hints
  have HIB : Hid _ := hib
  have HMl : Hid (is.length = M) := hM
  rw [hN] at hlen ⊢
  rw [hM]
  clear hs hcells hok hN hM his hints hib
  have hE0 : Ext none1 W (W.alloc (.cells #[.int .i64 h, .int .i64 n, .int .i64 s] 26)) := (Ext.refl _ _).alloc _
  have Hop : Hid _ := Mid.opened face _ (hG.keep hE0 (fun x => x)) h n s h0 h1 n0 n1 s0 s1
  obtain ⟨W0, HW0⟩ : ∃ W0, Hid (W.alloc (.cells #[.int .i64 h, .int .i64 n, .int .i64 s] 26) = W0) := ⟨_, rfl⟩
  rw [HW0.out] at hE0
  have HE0 : Hid _ := hE0
  clear hE0 hG
  refine (callsIn_wide (n := 16)).1 (callsIn_of_wp_marks Tryd.func11 rfl trivial ?_ rfl)
  obtain ⟨QQ, hQQ⟩ : ∃ QQ : Act → World → Prop, QQ = fun a w => bodyPostM Fence.wide 16 Tryd.prog Tryd.f11 (fun e W' => e = .returned (.bool true) ∧ Ext none1 W W') .ret a w := ⟨_, rfl⟩
  refine wpIn_mono (Q := fun e a w => e = .ret ∧ QQ a w) (wpIn_wide.2 ?_) (fun e a w h => by obtain ⟨rfl, h⟩ := h; rw [hQQ] at h; exact h)
  have HQQ : Hid (∀ (tm : Array Value) (D : Nat) (U : World), tm.getD 6 undef = .bool true → U.heap[D]? = some (.deferred (some [])) → W.heap.size ≤ D → Ext none1 W U → QQ { tmps := tm, defers := [{ target := .collected D, args := #[] }] } U) := fun tm D U htm hd hD hE => by
    rw [hQQ]
    exact leaves_mark hd (results_tmp rfl _ _ _) ⟨by rw [htm], ext_shut hE hD⟩
  clear hQQ
  simp only [Tryd.ntmps11, List.size_toArray, List.length_cons, List.length_nil, Nat.reduceAdd, Nat.reduceSub, Array.replicate_succ, Array.replicate_zero, List.push_toArray, List.append_toArray, List.nil_append, List.cons_append]
  go_wp2_with fail
  refine Calls.mono Hop.out ?_
  clear Hop
  rw [HW0.out]
  clear HW0
  rintro e W1 ⟨fl, rfl, hE1, hm⟩
  have HM : Hid _ := hm
  clear hm hE1
  go_wp2
  go_loopw [8, 9] (fun i _ wr => ∃ (k : Nat) (S : Ti.St) (L : List Hb), k ≤ N ∧ i = .int .i64 k ∧ Mid PrIs W0 wr fl (1 + pickI h 4) (1 + pickI n 16) (1 + pickI s 4) S L)
    (fun i _ _ => N - (intOf i).toNat)
  case atStart => exact ⟨0, _, _, Nat.zero_le _, rfl, HM.out⟩
  case round =>
    obtain ⟨k, S0, L0, hk, rfl, hm⟩ := hrel
    have hEr : Ext none1 W wr := HE0.out.trans (let ⟨_, _, e, _⟩ := hm; e)
    by_cases hlt : k < N
    · obtain ⟨o, ho⟩ : ∃ o, ops[k]? = some o := ⟨_, List.getElem?_eq_getElem (by rw [HN.out]; exact hlt)⟩
      have hook := HO.out o (List.mem_of_getElem? ho)
      obtain ⟨ad, rfl, hadl, q0, q1, q2⟩ := HC.out k o ho
      have hcw : ∀ j, wr.cell? (ad.add j) = W.cell? (ad.add j) := fun j => World.cell?_of_block (hEr.block _ (by rw [add_block]; exact hadl) (fun x => x))
      rw [← hcw] at q0 q1 q2
      rw [← cell_add _ _ _ _ (by omega)] at q1 q2
      have hlt' : (k : Int) < (N : Int) := by omega
      have Hst : Hid _ := Mid.step face hm o hook
      clear hm HM hcw
      go_wp2_with fail
      refine Calls.mono Hst.out ?_
      clear Hst q0 q1 q2
      rintro e V ⟨rfl, S, L, hm, _, _⟩
      have HM2 : Hid _ := hm
      clear hm
      go_wp2
      go_roundw
      case rel => exact ⟨k + 1, S, L, by omega, by go_num, HM2.out⟩
      case measure => simp [intOf]; omega
    · obtain rfl : k = N := by omega
      have HM1 : Hid _ := hm
      have hf4 : ∃ pv capv, wr.cell? ⟨fl, 4, none⟩ = some (.slice pv L0.length capv) := by
        obtain ⟨foot, hA, _⟩ := hm
        obtain ⟨fp, x, v, hX⟩ := hA.fx
        have f4 := cell_of hX.b1 4
        simp at f4
        rcases hX.b3.2 with ⟨rfl, e⟩ | ⟨g, cap, cur, rfl, _⟩
        · exact ⟨none, 0, by rw [e]; exact f4⟩
        · exact ⟨_, cap, f4⟩
      obtain ⟨pv, capv, f4⟩ := hf4
      have hfew : L0.length ≤ 1024 := let ⟨_, hA, _⟩ := hm; hA.few
      clear hm hEr HM
      go_wp2
      clear f4
      go_loopw [11, 12, 13] (fun t _ _ w' => ∃ (j : Nat) (S : Ti.St) (L : List Hb), j + L.length = L0.length ∧ t = .int .i64 j ∧ Mid PrIs W0 w' fl (1 + pickI h 4) (1 + pickI n 16) (1 + pickI s 4) S L) (fun t _ _ _ => L0.length - (intOf t).toNat)
      case atStart => exact ⟨0, S0, L0, by omega, rfl, HM1.out⟩
      case round =>
        obtain ⟨j, S, L, hj, rfl, hm⟩ := hrel
        have hEr : Ext none1 W wr := HE0.out.trans (let ⟨_, _, e, _⟩ := hm; e)
        clear HM1
        by_cases hL : 0 < L.length
        · have hjl : (j : Int) < (L0.length : Int) := by omega
          by_cases hji : j < M
          · have hji' : (j : Int) < (M : Int) := by omega
            obtain ⟨z, hz⟩ : ∃ z, is[j]? = some z := ⟨_, List.getElem?_eq_getElem (by rw [HMl.out]; exact hji)⟩
            obtain ⟨ad, rfl, hadl, q0⟩ := HI.out j z hz
            have hzb := HIB.out z (List.mem_of_getElem? hz)
            rw [← World.cell?_of_block (hEr.block _ (by rw [add_block]; exact hadl) (fun x => x))] at q0
            have Hst : Hid _ := Mid.less face hm hL z 0 hzb.1 hzb.2
            clear hm hEr
            go_wp2_with fail
            refine Calls.mono Hst.out ?_
            clear Hst q0
            rintro e V ⟨rfl, S2, L2, hm, _, hl2⟩
            have HM2 : Hid _ := hm
            clear hm
            go_wp2
            go_roundw
            case rel => exact ⟨j + 1, S2, L2, by omega, by go_num, HM2.out⟩
            case measure => simp [intOf]; omega
          · have hji' : ¬ (j : Int) < (M : Int) := by omega
            have Hst : Hid _ := Mid.less face hm hL 0 0 (by omega) (by omega)
            clear hm hEr
            go_wp2_with fail
            refine Calls.mono Hst.out ?_
            clear Hst
            rintro e V ⟨rfl, S2, L2, hm, _, hl2⟩
            have HM2 : Hid _ := hm
            clear hm
            go_wp2
            go_roundw
            case rel => exact ⟨j + 1, S2, L2, by omega, by go_num, HM2.out⟩
            case measure => simp [intOf]; omega
        · obtain rfl : L = [] := List.eq_nil_of_length_eq_zero (by omega)
          obtain rfl : j = L0.length := by simpa using hj
          obtain ⟨foot, hA, hE, hf, hfl2, e1, e2, e3, hlean⟩ := hm
          have hokS := hA.ok
          obtain ⟨fp, x, v, hX⟩ := hA.fx
          have hlf := lt_of_heap hX.b1
          have hI := hokS.inv
          have h16 := hI.f16
          have hh1 := hI.h1
          have hh4 := hI.h4
          have hs1 := hI.s1
          have hs4 := hI.s4
          have f0 := cell_of hX.b1 0
          have f1 := cell_of hX.b1 1
          have f2 := cell_of hX.b1 2
          have f3 := cell_of hX.b1 3
          simp at f0 f1 f2 f3
          have hbn : S.blocks = [] := by
            have := hokS.perm
            simpa using this.symm
          have Hall : Hid ((S.freeFrames : Int) + frC S 3 = S.sups.length) := by
            have := frC_all hokS
            simp only [frTo, List.take_nil, List.map_nil, Ti.sumL] at this
            show _ = _
            omega
          have hfb : (S.freeFrames : Int) ≤ 16 := by
            have := Hall.out
            have := (frC_bd hI.toInv0 3).1
            omega
          have Hln : Hid (∀ h c : Int, 0 ≤ h → S.held h c ≤ 64 * S.slack ∧ (h = 0 → S.held h c = 0)) := fun h c hh => Ti.lean_none S hI hlean hbn h c hh
          have Hch : Hid (∀ h c : Int, S.charged h c = 0) := fun h c => Ti.charged_none S hbn h c
          have Hfr : Hid _ := face.frames wr x fp S hX.b2 hI
          have HX : Hid _ := hX
          have HEr : Hid _ := hEr
          clear hX hA hE hf e1 e2 e3 hokS hlean hEr hj hL
          go_wp2_with fail
          refine Calls.mono Hfr.out ?_
          clear Hfr
          rintro e w2 ⟨rfl, hE2⟩
          have HX2 : Hid _ := FX.keep face HX.out hE2
          have HEr2 : Hid _ := HEr.out.trans hE2
          rw [← hE2.cell fl _ hlf] at f0 f1 f2 f3
          have hlf := Nat.lt_of_lt_of_le hlf hE2.size
          obtain ⟨A, hA⟩ : ∃ A : Int, A = (S.freeFrames : Int) := ⟨_, rfl⟩
          rw [← hA] at hfb Hall ⊢
          have hAb : 0 ≤ A ∧ A ≤ 16 := by omega
          clear hE2 HX hA hfb HEr
          go_wp2
          go_loopw [14, 15, 16, 17, 18] (fun t8 t10 _ _ _ w4 => ∃ cc : Nat, cc ≤ 3 ∧ t10 = .int .i64 cc ∧ t8 = .int .i64 (A + frC S cc) ∧ Ext none1 w2 w4) (fun _ t10 _ _ _ _ => 3 - (intOf t10).toNat)
          case atStart => exact ⟨0, by omega, rfl, by simp [frC, Ti.sumTo], Ext.refl _ _⟩
          case round =>
            obtain ⟨cc, hcc, rfl, rfl, hE4⟩ := hrel
            have hcb := frC_bd hI.toInv0 cc
            by_cases hc3 : cc < 3
            · have hc3' : (cc : Int) < 3 := by omega
              obtain ⟨w4, hw4⟩ : ∃ w4, w4 = wr := ⟨_, rfl⟩
              rw [← hw4] at hE4 ⊢
              clear hw4
              have HE4 : Hid _ := hE4
              have hlf4 := Nat.lt_of_lt_of_le hlf hE4.size
              obtain ⟨B, hB⟩ : ∃ B : Int, B = A + frC S cc := ⟨_, rfl⟩
              have HB : Hid (A + frC S (cc + 1) = B + S.fr cc (S.heaps.toNat + 1)) := by show _ = _; rw [hB]; simp only [frC, Ti.sumTo]; omega
              have hBb : 0 ≤ B ∧ B ≤ 16384 := by omega
              rw [← hB]
              have g0 := (hE4.cell fl 0 hlf).trans f0
              have g1 := (hE4.cell fl 1 hlf).trans f1
              have g3 := (hE4.cell fl 3 hlf).trans f3
              have HX4 : Hid _ := FX.keep face HX2.out hE4
              clear hB hE4
              go_wp2
              go_loopw [14, 16, 17, 18] (fun t8 t12 _ _ w5 => ∃ hh : Nat, (hh : Int) ≤ S.heaps + 1 ∧ t12 = .int .i64 hh ∧ t8 = .int .i64 (B + S.fr cc hh) ∧ Ext none1 w4 w5) (fun _ t12 _ _ _ => (S.heaps + 1).toNat - (intOf t12).toNat)
              case atStart => exact ⟨0, by omega, rfl, by simp [Ti.St.fr, Ti.sumTo], Ext.refl _ _⟩
              case round =>
                obtain ⟨hh, hhl, rfl, rfl, hE5⟩ := hrel
                have u0 := (hE5.cell fl 0 hlf4).trans g0
                have u1 := (hE5.cell fl 1 hlf4).trans g1
                have u3 := (hE5.cell fl 3 hlf4).trans g3
                have hfb5 := fr_bd hI.toInv0 cc hh
                have HX5 : Hid _ := FX.keep face HX4.out hE5
                by_cases hhlt : (hh : Int) ≤ S.heaps
                · have hso := stats_ok S hh cc (by omega) (by omega) (by omega) (by omega)
                  have hdb := stats_bd S (Bd.of S hI.toInv0) hh cc
                  rw [Hch.out] at hso
                  obtain ⟨hln, hlz⟩ := Hln.out hh cc (by omega)
                  have Hst : Hid _ := face.stats wr x fp S hh cc HX5.out.b2 hI
                  rw [hso] at Hst
                  have Hs2 : Hid (B + S.fr cc (hh + 1) = B + S.fr cc hh + S.held hh cc / 64) := by
                    show _ = _
                    simp only [Ti.St.fr, Ti.sumTo]; omega
                  have hfv : 0 ≤ B + S.fr cc hh ∧ B + S.fr cc hh ≤ 32768 := by omega
                  generalize S.held hh cc = Hd at *
                  generalize B + S.fr cc hh = Fv at *
                  have hlf5 := Nat.lt_of_lt_of_le hlf4 hE5.size
                  have HE5 : Hid _ := hE5
                  have htd : Hd.tdiv 64 = Hd / 64 := Int.tdiv_eq_ediv_of_nonneg (by omega)
                  have hwF : IntKind.i64.wrap (Fv + Hd / 64) = Fv + Hd / 64 := by rw [IntKind.wrap_i64]; omega
                  have hw1 : IntKind.i64.wrap (64 * S.slack) = 64 * S.slack := by rw [IntKind.wrap_i64]; omega
                  have hng : ¬ 64 * S.slack < Hd := by omega
                  clear hE5 hso HX5
                  go_wp2_with fail
                  refine Calls.mono Hst.out ?_
                  clear Hst
                  rintro e w6 ⟨rfl, hE6⟩
                  have hEb : Ext none1 wr (w6.alloc (.cells #[.int .i64 Hd, .int .i64 0] 44)) := hE6.alloc _
                  have hbs := heap_alloc_new w6 (.cells #[.int .i64 Hd, .int .i64 0] 44)
                  have v3 := (hEb.cell fl 3 hlf5).trans u3
                  go_wp2_with fail
                  generalize w6.alloc (.cells #[.int .i64 Hd, .int .i64 0] 44) = Wb at *
                  obtain ⟨bs, hbsd⟩ : ∃ bs, bs = w6.heap.size := ⟨_, rfl⟩
                  rw [← hbsd] at hbs ⊢
                  have x0 := cell_of hbs 0
                  have x1 := cell_of hbs 1
                  simp at x0 x1
                  have hbl := lt_of_heap hbs
                  have k1 : ∀ (w' : World) (o : Nat), Ext none1 Wb w' → w'.cell? ⟨bs, o, none⟩ = Wb.cell? ⟨bs, o, none⟩ := fun w' o hE => hE.cell bs o hbl
                  have k2 : ∀ (w' : World) (o : Nat), Ext none1 Wb w' → w'.cell? ⟨fl, o, none⟩ = Wb.cell? ⟨fl, o, none⟩ := fun w' o hE => hE.cell fl o (Nat.lt_of_lt_of_le hlf5 hEb.size)
                  have HEd : Hid (Ext none1 w4 Wb.drew) := (HE5.out.trans hEb).drew
                  have z0 : Wb.drew.cell? ⟨bs, 0, none⟩ = some (.int .i64 Hd) := (k1 _ 0 (Ext.refl _ _).drew).trans x0
                  clear hE6 hEb hbsd u0 u1 u3 hbs
                  by_cases hz : (hh : Int) = 0
                  · have hn0 : ¬ 0 < Hd := by have := hlz hz; omega
                    clear hlz
                    refine wp_region_calm (fun w' => Ext none1 Wb w') (by kernel_rfl) (Ext.refl _ _).drew (fun hHeld => ?_)
                    refine take_dst 0 91 (v := ?_) rfl (by kernel_rfl) (by kernel_rfl) (by kernel_rfl) rfl (fun c _ _ h => absurd rfl (h.1 c)) (Or.inl ⟨by rfl, ?_⟩) (by assumption) ?_
                    rotate_left
                    · intro wx hSw
                      first | (go_simp; done) | (go_simp; with_reducible rfl)
                    simp only [Act.put, List.setIfInBounds_toArray, List.set_cons_zero, List.set_cons_succ]
                    refine take_dst 1 92 (v := .bool false) rfl (by kernel_rfl) (by kernel_rfl) (by kernel_rfl) rfl (fun c _ _ h => absurd rfl (h.1 c)) (Or.inl ⟨by rfl, ?_⟩) (by assumption) ?_
                    · intro wx hSw
                      first | (go_simp; done) | (go_simp; simp; done) | (go_simp; simp; omega) | (go_simp; omega) | (go_simp; exact decide_eq_false (by omega)) | (go_simp; exact decide_eq_true (by omega))
                    simp only [Act.put, List.setIfInBounds_toArray, List.set_cons_zero, List.set_cons_succ]
                    refine take_dst 2 93 (v := ?_) rfl (by kernel_rfl) (by kernel_rfl) (by kernel_rfl) rfl (fun c _ _ h => absurd rfl (h.1 c)) (Or.inl ⟨by rfl, ?_⟩) (by assumption) ?_
                    rotate_left
                    · intro wx hSw
                      first | (go_simp; done) | (go_simp; with_reducible rfl)
                    simp only [Act.put, List.setIfInBounds_toArray, List.set_cons_zero, List.set_cons_succ]
                    refine take_dst 3 94 (v := ?_) rfl (by kernel_rfl) (by kernel_rfl) (by kernel_rfl) rfl (fun c _ _ h => absurd rfl (h.1 c)) (Or.inl ⟨by rfl, ?_⟩) (by assumption) ?_
                    rotate_left
                    · intro wx hSw
                      first | (go_simp; done) | (go_simp; with_reducible rfl)
                    simp only [Act.put, List.setIfInBounds_toArray, List.set_cons_zero, List.set_cons_succ]
                    refine take_dst 4 95 (v := ?_) rfl (by kernel_rfl) (by kernel_rfl) (by kernel_rfl) rfl (fun c _ _ h => absurd rfl (h.1 c)) (Or.inl ⟨by rfl, ?_⟩) (by assumption) ?_
                    rotate_left
                    · intro wx hSw
                      first | (go_simp; done) | (go_simp; with_reducible rfl)
                    simp only [Act.put, List.setIfInBounds_toArray, List.set_cons_zero, List.set_cons_succ]
                    refine take_dst 5 96 (v := .bool false) rfl (by kernel_rfl) (by kernel_rfl) (by kernel_rfl) rfl (fun c _ _ h => absurd rfl (h.1 c)) (Or.inl ⟨by rfl, ?_⟩) (by assumption) ?_
                    · intro wx hSw
                      first | (go_simp; done) | (go_simp; simp; done) | (go_simp; simp; omega) | (go_simp; omega) | (go_simp; exact decide_eq_false (by omega)) | (go_simp; exact decide_eq_true (by omega))
                    simp only [Act.put, List.setIfInBounds_toArray, List.set_cons_zero, List.set_cons_succ]
                    refine take_dst 6 97 (v := .bool false) rfl (by kernel_rfl) (by kernel_rfl) (by kernel_rfl) rfl (fun c _ _ h => absurd rfl (h.1 c)) (Or.inl ⟨by rfl, ?_⟩) (by assumption) ?_
                    · intro wx hSw
                      first | (go_simp; done) | (go_simp; simp; done) | (go_simp; simp; omega) | (go_simp; omega) | (go_simp; exact decide_eq_false (by omega)) | (go_simp; exact decide_eq_true (by omega))
                    simp only [Act.put, List.setIfInBounds_toArray, List.set_cons_zero, List.set_cons_succ]
                    refine take_dst 7 98 (v := ?_) rfl (by kernel_rfl) (by kernel_rfl) (by kernel_rfl) rfl (fun c _ _ h => absurd rfl (h.1 c)) (Or.inl ⟨by rfl, ?_⟩) (by assumption) ?_
                    rotate_left
                    · intro wx hSw
                      first | (go_simp; done) | (go_simp; with_reducible rfl)
                    simp only [Act.put, List.setIfInBounds_toArray, List.set_cons_zero, List.set_cons_succ]
                    refine take_dst 8 99 (v := ?_) rfl (by kernel_rfl) (by kernel_rfl) (by kernel_rfl) rfl (fun c _ _ h => absurd rfl (h.1 c)) (Or.inl ⟨by rfl, ?_⟩) (by assumption) ?_
                    rotate_left
                    · intro wx hSw
                      first | (go_simp; done) | (go_simp; with_reducible rfl)
                    simp only [Act.put, List.setIfInBounds_toArray, List.set_cons_zero, List.set_cons_succ]
                    refine take_dst 9 100 (v := ?_) rfl (by kernel_rfl) (by kernel_rfl) (by kernel_rfl) rfl (fun c _ _ h => absurd rfl (h.1 c)) (Or.inl ⟨by rfl, ?_⟩) (by assumption) ?_
                    rotate_left
                    · intro wx hSw
                      first | (go_simp; done) | (go_simp; with_reducible rfl)
                    simp only [Act.put, List.setIfInBounds_toArray, List.set_cons_zero, List.set_cons_succ]
                    refine take_dst 10 101 (v := ?_) rfl (by kernel_rfl) (by kernel_rfl) (by kernel_rfl) rfl (fun c _ _ h => absurd rfl (h.1 c)) (Or.inl ⟨by rfl, ?_⟩) (by assumption) ?_
                    rotate_left
                    · intro wx hSw
                      first | (go_simp; done) | (go_simp; with_reducible rfl)
                    simp only [Act.put, List.setIfInBounds_toArray, List.set_cons_zero, List.set_cons_succ]
                    refine take_dst 11 102 (v := ?_) rfl (by kernel_rfl) (by kernel_rfl) (by kernel_rfl) rfl (fun c _ _ h => absurd rfl (h.1 c)) (Or.inl ⟨by rfl, ?_⟩) (by assumption) ?_
                    rotate_left
                    · intro wx hSw
                      first | (go_simp; done) | (go_simp; with_reducible rfl)
                    simp only [Act.put, List.setIfInBounds_toArray, List.set_cons_zero, List.set_cons_succ]
                    refine take_dst 12 103 (v := ?_) rfl (by kernel_rfl) (by kernel_rfl) (by kernel_rfl) rfl (fun c _ _ h => absurd rfl (h.1 c)) (Or.inl ⟨by rfl, ?_⟩) (by assumption) ?_
                    rotate_left
                    · intro wx hSw
                      first | (go_simp; done) | (go_simp; with_reducible rfl)
                    simp only [Act.put, List.setIfInBounds_toArray, List.set_cons_zero, List.set_cons_succ]
                    refine take_dst 13 104 (v := ?_) rfl (by kernel_rfl) (by kernel_rfl) (by kernel_rfl) rfl (fun c _ _ h => absurd rfl (h.1 c)) (Or.inl ⟨by rfl, ?_⟩) (by assumption) ?_
                    rotate_left
                    · intro wx hSw
                      first | (go_simp; done) | (go_simp; with_reducible rfl)
                    simp only [Act.put, List.setIfInBounds_toArray, List.set_cons_zero, List.set_cons_succ]
                    refine take_dst 14 105 (v := ?_) rfl (by kernel_rfl) (by kernel_rfl) (by kernel_rfl) rfl (fun c _ _ h => absurd rfl (h.1 c)) (Or.inl ⟨by rfl, ?_⟩) (by assumption) ?_
                    rotate_left
                    · intro wx hSw
                      first | (go_simp; done) | (go_simp; with_reducible rfl)
                    simp only [Act.put, List.setIfInBounds_toArray, List.set_cons_zero, List.set_cons_succ]
                    refine take_dst 15 106 (v := ?_) rfl (by kernel_rfl) (by kernel_rfl) (by kernel_rfl) rfl (fun c _ _ h => absurd rfl (h.1 c)) (Or.inl ⟨by rfl, ?_⟩) (by assumption) ?_
                    rotate_left
                    · intro wx hSw
                      first | (go_simp; done) | (go_simp; with_reducible rfl)
                    simp only [Act.put, List.setIfInBounds_toArray, List.set_cons_zero, List.set_cons_succ]
                    refine take_dst 16 107 (v := .bool false) rfl (by kernel_rfl) (by kernel_rfl) (by kernel_rfl) rfl (fun c _ _ h => absurd rfl (h.1 c)) (Or.inl ⟨by rfl, ?_⟩) (by assumption) ?_
                    · intro wx hSw
                      first | (go_simp; done) | (go_simp; simp; done) | (go_simp; simp; omega) | (go_simp; omega) | (go_simp; exact decide_eq_false (by omega)) | (go_simp; exact decide_eq_true (by omega))
                    simp only [Act.put, List.setIfInBounds_toArray, List.set_cons_zero, List.set_cons_succ]
                    refine take_dst 17 108 (v := .bool false) rfl (by kernel_rfl) (by kernel_rfl) (by kernel_rfl) rfl (fun c _ _ h => absurd rfl (h.1 c)) (Or.inl ⟨by rfl, ?_⟩) (by assumption) ?_
                    · intro wx hSw
                      first | (go_simp; done) | (go_simp; simp; done) | (go_simp; simp; omega) | (go_simp; omega) | (go_simp; exact decide_eq_false (by omega)) | (go_simp; exact decide_eq_true (by omega))
                    simp only [Act.put, List.setIfInBounds_toArray, List.set_cons_zero, List.set_cons_succ]
                    refine take_dst 18 109 (v := ?_) rfl (by kernel_rfl) (by kernel_rfl) (by kernel_rfl) rfl (fun c _ _ h => absurd rfl (h.1 c)) (Or.inl ⟨by rfl, ?_⟩) (by assumption) ?_
                    rotate_left
                    · intro wx hSw
                      first | (go_simp; done) | (go_simp; with_reducible rfl)
                    simp only [Act.put, List.setIfInBounds_toArray, List.set_cons_zero, List.set_cons_succ]
                    refine take_dst 19 110 (v := ?_) rfl (by kernel_rfl) (by kernel_rfl) (by kernel_rfl) rfl (fun c _ _ h => absurd rfl (h.1 c)) (Or.inl ⟨by rfl, ?_⟩) (by assumption) ?_
                    rotate_left
                    · intro wx hSw
                      first | (go_simp; done) | (go_simp; with_reducible rfl)
                    simp only [Act.put, List.setIfInBounds_toArray, List.set_cons_zero, List.set_cons_succ]
                    refine take_dst 20 111 (v := .bool true) rfl (by kernel_rfl) (by kernel_rfl) (by kernel_rfl) rfl (fun c _ _ h => absurd rfl (h.1 c)) (Or.inl ⟨by rfl, ?_⟩) (by assumption) ?_
                    · intro wx hSw
                      first | (go_simp; done) | (go_simp; simp; done) | (go_simp; simp; omega) | (go_simp; omega) | (go_simp; exact decide_eq_false (by omega)) | (go_simp; exact decide_eq_true (by omega))
                    simp only [Act.put, List.setIfInBounds_toArray, List.set_cons_zero, List.set_cons_succ]
                    refine take_dst 21 112 (v := ?_) rfl (by kernel_rfl) (by kernel_rfl) (by kernel_rfl) rfl (fun c _ _ h => absurd rfl (h.1 c)) (Or.inl ⟨by rfl, ?_⟩) (by assumption) ?_
                    rotate_left
                    · intro wx hSw
                      first | (go_simp; done) | (go_simp; with_reducible rfl)
                    simp only [Act.put, List.setIfInBounds_toArray, List.set_cons_zero, List.set_cons_succ]
                    refine take_dst 22 113 (v := ?_) rfl (by kernel_rfl) (by kernel_rfl) (by kernel_rfl) rfl (fun c _ _ h => absurd rfl (h.1 c)) (Or.inl ⟨by rfl, ?_⟩) (by assumption) ?_
                    rotate_left
                    · intro wx hSw
                      first | (go_simp; done) | (go_simp; with_reducible rfl)
                    simp only [Act.put, List.setIfInBounds_toArray, List.set_cons_zero, List.set_cons_succ]
                    refine take_dst 23 114 (v := ?_) rfl (by kernel_rfl) (by kernel_rfl) (by kernel_rfl) rfl (fun c _ _ h => absurd rfl (h.1 c)) (Or.inl ⟨by rfl, ?_⟩) (by assumption) ?_
                    rotate_left
                    · intro wx hSw
                      first | (go_simp; done) | (go_simp; with_reducible rfl)
                    simp only [Act.put, List.setIfInBounds_toArray, List.set_cons_zero, List.set_cons_succ]
                    refine take_dst 24 115 (v := .bool false) rfl (by kernel_rfl) (by kernel_rfl) (by kernel_rfl) rfl (fun c _ _ h => absurd rfl (h.1 c)) (Or.inl ⟨by rfl, ?_⟩) (by assumption) ?_
                    · intro wx hSw
                      first | (go_simp; done) | (go_simp; simp; done) | (go_simp; simp; omega) | (go_simp; omega) | (go_simp; exact decide_eq_false (by omega)) | (go_simp; exact decide_eq_true (by omega))
                    simp only [Act.put, List.setIfInBounds_toArray, List.set_cons_zero, List.set_cons_succ]
                    refine take_dst 25 116 (v := .bool false) rfl (by kernel_rfl) (by kernel_rfl) (by kernel_rfl) rfl (fun c _ _ h => absurd rfl (h.1 c)) (Or.inl ⟨by rfl, ?_⟩) (by assumption) ?_
                    · intro wx hSw
                      first | (go_simp; done) | (go_simp; simp; done) | (go_simp; simp; omega) | (go_simp; omega) | (go_simp; exact decide_eq_false (by omega)) | (go_simp; exact decide_eq_true (by omega))
                    simp only [Act.put, List.setIfInBounds_toArray, List.set_cons_zero, List.set_cons_succ]
                    refine take_dst 26 117 (v := .bool false) rfl (by kernel_rfl) (by kernel_rfl) (by kernel_rfl) rfl (fun c _ _ h => absurd rfl (h.1 c)) (Or.inl ⟨by rfl, ?_⟩) (by assumption) ?_
                    · intro wx hSw
                      first | (go_simp; done) | (go_simp; simp; done) | (go_simp; simp; omega) | (go_simp; omega) | (go_simp; exact decide_eq_false (by omega)) | (go_simp; exact decide_eq_true (by omega))
                    simp only [Act.put, List.setIfInBounds_toArray, List.set_cons_zero, List.set_cons_succ]
                    refine wpAnyH_done (by kernel_rfl) ?_ _
                    refine ⟨fun c h => (by cases h), ?_⟩
                    clear hHeld k1 k2 x0 x1 v3
                    generalize Wb.drew = Wd at *
                    go_wp2
                    go_roundw
                    case rel => exact ⟨hh + 1, by omega, by go_num, by rw [Hs2.out], HEd.out⟩
                    case measure => simp [intOf]; omega
                  · clear hlz
                    refine wp_region_calm (fun w' => Ext none1 Wb w') (by kernel_rfl) (Ext.refl _ _).drew (fun hHeld => ?_)
                    refine take_dst 0 91 (v := ?_) rfl (by kernel_rfl) (by kernel_rfl) (by kernel_rfl) rfl (fun c _ _ h => absurd rfl (h.1 c)) (Or.inl ⟨by rfl, ?_⟩) (by assumption) ?_
                    rotate_left
                    · intro wx hSw
                      first | (go_simp; done) | (go_simp; with_reducible rfl)
                    simp only [Act.put, List.setIfInBounds_toArray, List.set_cons_zero, List.set_cons_succ]
                    refine take_dst 1 92 (v := .bool false) rfl (by kernel_rfl) (by kernel_rfl) (by kernel_rfl) rfl (fun c _ _ h => absurd rfl (h.1 c)) (Or.inl ⟨by rfl, ?_⟩) (by assumption) ?_
                    · intro wx hSw
                      first | (go_simp; done) | (go_simp; simp; done) | (go_simp; simp; omega) | (go_simp; omega) | (go_simp; exact decide_eq_false (by omega)) | (go_simp; exact decide_eq_true (by omega))
                    simp only [Act.put, List.setIfInBounds_toArray, List.set_cons_zero, List.set_cons_succ]
                    refine take_dst 2 93 (v := ?_) rfl (by kernel_rfl) (by kernel_rfl) (by kernel_rfl) rfl (fun c _ _ h => absurd rfl (h.1 c)) (Or.inl ⟨by rfl, ?_⟩) (by assumption) ?_
                    rotate_left
                    · intro wx hSw
                      first | (go_simp; done) | (go_simp; with_reducible rfl)
                    simp only [Act.put, List.setIfInBounds_toArray, List.set_cons_zero, List.set_cons_succ]
                    refine take_dst 3 94 (v := ?_) rfl (by kernel_rfl) (by kernel_rfl) (by kernel_rfl) rfl (fun c _ _ h => absurd rfl (h.1 c)) (Or.inl ⟨by rfl, ?_⟩) (by assumption) ?_
                    rotate_left
                    · intro wx hSw
                      first | (go_simp; done) | (go_simp; with_reducible rfl)
                    simp only [Act.put, List.setIfInBounds_toArray, List.set_cons_zero, List.set_cons_succ]
                    refine take_dst 4 95 (v := ?_) rfl (by kernel_rfl) (by kernel_rfl) (by kernel_rfl) rfl (fun c _ _ h => absurd rfl (h.1 c)) (Or.inl ⟨by rfl, ?_⟩) (by assumption) ?_
                    rotate_left
                    · intro wx hSw
                      first | (go_simp; done) | (go_simp; with_reducible rfl)
                    simp only [Act.put, List.setIfInBounds_toArray, List.set_cons_zero, List.set_cons_succ]
                    refine take_dst 5 96 (v := .bool false) rfl (by kernel_rfl) (by kernel_rfl) (by kernel_rfl) rfl (fun c _ _ h => absurd rfl (h.1 c)) (Or.inl ⟨by rfl, ?_⟩) (by assumption) ?_
                    · intro wx hSw
                      first | (go_simp; done) | (go_simp; simp; done) | (go_simp; simp; omega) | (go_simp; omega) | (go_simp; exact decide_eq_false (by omega)) | (go_simp; exact decide_eq_true (by omega))
                    simp only [Act.put, List.setIfInBounds_toArray, List.set_cons_zero, List.set_cons_succ]
                    refine take_dst 6 97 (v := .bool false) rfl (by kernel_rfl) (by kernel_rfl) (by kernel_rfl) rfl (fun c _ _ h => absurd rfl (h.1 c)) (Or.inl ⟨by rfl, ?_⟩) (by assumption) ?_
                    · intro wx hSw
                      first | (go_simp; done) | (go_simp; simp; done) | (go_simp; simp; omega) | (go_simp; omega) | (go_simp; exact decide_eq_false (by omega)) | (go_simp; exact decide_eq_true (by omega))
                    simp only [Act.put, List.setIfInBounds_toArray, List.set_cons_zero, List.set_cons_succ]
                    refine take_dst 7 98 (v := ?_) rfl (by kernel_rfl) (by kernel_rfl) (by kernel_rfl) rfl (fun c _ _ h => absurd rfl (h.1 c)) (Or.inl ⟨by rfl, ?_⟩) (by assumption) ?_
                    rotate_left
                    · intro wx hSw
                      first | (go_simp; done) | (go_simp; with_reducible rfl)
                    simp only [Act.put, List.setIfInBounds_toArray, List.set_cons_zero, List.set_cons_succ]
                    refine take_dst 8 99 (v := ?_) rfl (by kernel_rfl) (by kernel_rfl) (by kernel_rfl) rfl (fun c _ _ h => absurd rfl (h.1 c)) (Or.inl ⟨by rfl, ?_⟩) (by assumption) ?_
                    rotate_left
                    · intro wx hSw
                      first | (go_simp; done) | (go_simp; with_reducible rfl)
                    simp only [Act.put, List.setIfInBounds_toArray, List.set_cons_zero, List.set_cons_succ]
                    refine take_dst 9 100 (v := ?_) rfl (by kernel_rfl) (by kernel_rfl) (by kernel_rfl) rfl (fun c _ _ h => absurd rfl (h.1 c)) (Or.inl ⟨by rfl, ?_⟩) (by assumption) ?_
                    rotate_left
                    · intro wx hSw
                      first | (go_simp; done) | (go_simp; with_reducible rfl)
                    simp only [Act.put, List.setIfInBounds_toArray, List.set_cons_zero, List.set_cons_succ]
                    refine take_dst 10 101 (v := ?_) rfl (by kernel_rfl) (by kernel_rfl) (by kernel_rfl) rfl (fun c _ _ h => absurd rfl (h.1 c)) (Or.inl ⟨by rfl, ?_⟩) (by assumption) ?_
                    rotate_left
                    · intro wx hSw
                      first | (go_simp; done) | (go_simp; with_reducible rfl)
                    simp only [Act.put, List.setIfInBounds_toArray, List.set_cons_zero, List.set_cons_succ]
                    refine take_dst 11 102 (v := ?_) rfl (by kernel_rfl) (by kernel_rfl) (by kernel_rfl) rfl (fun c _ _ h => absurd rfl (h.1 c)) (Or.inl ⟨by rfl, ?_⟩) (by assumption) ?_
                    rotate_left
                    · intro wx hSw
                      first | (go_simp; done) | (go_simp; with_reducible rfl)
                    simp only [Act.put, List.setIfInBounds_toArray, List.set_cons_zero, List.set_cons_succ]
                    refine take_dst 12 103 (v := ?_) rfl (by kernel_rfl) (by kernel_rfl) (by kernel_rfl) rfl (fun c _ _ h => absurd rfl (h.1 c)) (Or.inl ⟨by rfl, ?_⟩) (by assumption) ?_
                    rotate_left
                    · intro wx hSw
                      first | (go_simp; done) | (go_simp; with_reducible rfl)
                    simp only [Act.put, List.setIfInBounds_toArray, List.set_cons_zero, List.set_cons_succ]
                    refine take_dst 13 104 (v := ?_) rfl (by kernel_rfl) (by kernel_rfl) (by kernel_rfl) rfl (fun c _ _ h => absurd rfl (h.1 c)) (Or.inl ⟨by rfl, ?_⟩) (by assumption) ?_
                    rotate_left
                    · intro wx hSw
                      first | (go_simp; done) | (go_simp; with_reducible rfl)
                    simp only [Act.put, List.setIfInBounds_toArray, List.set_cons_zero, List.set_cons_succ]
                    refine take_dst 14 105 (v := ?_) rfl (by kernel_rfl) (by kernel_rfl) (by kernel_rfl) rfl (fun c _ _ h => absurd rfl (h.1 c)) (Or.inl ⟨by rfl, ?_⟩) (by assumption) ?_
                    rotate_left
                    · intro wx hSw
                      first | (go_simp; done) | (go_simp; with_reducible rfl)
                    simp only [Act.put, List.setIfInBounds_toArray, List.set_cons_zero, List.set_cons_succ]
                    refine take_dst 15 106 (v := ?_) rfl (by kernel_rfl) (by kernel_rfl) (by kernel_rfl) rfl (fun c _ _ h => absurd rfl (h.1 c)) (Or.inl ⟨by rfl, ?_⟩) (by assumption) ?_
                    rotate_left
                    · intro wx hSw
                      first | (go_simp; done) | (go_simp; with_reducible rfl)
                    simp only [Act.put, List.setIfInBounds_toArray, List.set_cons_zero, List.set_cons_succ]
                    refine take_dst 16 107 (v := .bool false) rfl (by kernel_rfl) (by kernel_rfl) (by kernel_rfl) rfl (fun c _ _ h => absurd rfl (h.1 c)) (Or.inl ⟨by rfl, ?_⟩) (by assumption) ?_
                    · intro wx hSw
                      first | (go_simp; done) | (go_simp; simp; done) | (go_simp; simp; omega) | (go_simp; omega) | (go_simp; exact decide_eq_false (by omega)) | (go_simp; exact decide_eq_true (by omega))
                    simp only [Act.put, List.setIfInBounds_toArray, List.set_cons_zero, List.set_cons_succ]
                    refine take_dst 17 108 (v := .bool false) rfl (by kernel_rfl) (by kernel_rfl) (by kernel_rfl) rfl (fun c _ _ h => absurd rfl (h.1 c)) (Or.inl ⟨by rfl, ?_⟩) (by assumption) ?_
                    · intro wx hSw
                      first | (go_simp; done) | (go_simp; simp; done) | (go_simp; simp; omega) | (go_simp; omega) | (go_simp; exact decide_eq_false (by omega)) | (go_simp; exact decide_eq_true (by omega))
                    simp only [Act.put, List.setIfInBounds_toArray, List.set_cons_zero, List.set_cons_succ]
                    refine take_dst 18 109 (v := ?_) rfl (by kernel_rfl) (by kernel_rfl) (by kernel_rfl) rfl (fun c _ _ h => absurd rfl (h.1 c)) (Or.inl ⟨by rfl, ?_⟩) (by assumption) ?_
                    rotate_left
                    · intro wx hSw
                      first | (go_simp; done) | (go_simp; with_reducible rfl)
                    simp only [Act.put, List.setIfInBounds_toArray, List.set_cons_zero, List.set_cons_succ]
                    refine take_dst 19 110 (v := ?_) rfl (by kernel_rfl) (by kernel_rfl) (by kernel_rfl) rfl (fun c _ _ h => absurd rfl (h.1 c)) (Or.inl ⟨by rfl, ?_⟩) (by assumption) ?_
                    rotate_left
                    · intro wx hSw
                      first | (go_simp; done) | (go_simp; with_reducible rfl)
                    simp only [Act.put, List.setIfInBounds_toArray, List.set_cons_zero, List.set_cons_succ]
                    refine take_dst 20 111 (v := .bool false) rfl (by kernel_rfl) (by kernel_rfl) (by kernel_rfl) rfl (fun c _ _ h => absurd rfl (h.1 c)) (Or.inl ⟨by rfl, ?_⟩) (by assumption) ?_
                    · intro wx hSw
                      first | (go_simp; done) | (go_simp; simp; done) | (go_simp; simp; omega) | (go_simp; omega) | (go_simp; exact decide_eq_false (by omega)) | (go_simp; exact decide_eq_true (by omega))
                    simp only [Act.put, List.setIfInBounds_toArray, List.set_cons_zero, List.set_cons_succ]
                    refine take_dst 21 112 (v := ?_) rfl (by kernel_rfl) (by kernel_rfl) (by kernel_rfl) rfl (fun c _ _ h => absurd rfl (h.1 c)) (Or.inl ⟨by rfl, ?_⟩) (by assumption) ?_
                    rotate_left
                    · intro wx hSw
                      first | (go_simp; done) | (go_simp; with_reducible rfl)
                    simp only [Act.put, List.setIfInBounds_toArray, List.set_cons_zero, List.set_cons_succ]
                    refine take_dst 22 113 (v := undef) rfl (by kernel_rfl) (by kernel_rfl) (by kernel_rfl) rfl (fun c _ _ h => absurd rfl (h.1 c)) (Or.inr ⟨by rfl, rfl⟩) (by assumption) ?_
                    simp only [Act.put, List.setIfInBounds_toArray, List.set_cons_zero, List.set_cons_succ]
                    refine take_dst 23 114 (v := undef) rfl (by kernel_rfl) (by kernel_rfl) (by kernel_rfl) rfl (fun c _ _ h => absurd rfl (h.1 c)) (Or.inr ⟨by rfl, rfl⟩) (by assumption) ?_
                    simp only [Act.put, List.setIfInBounds_toArray, List.set_cons_zero, List.set_cons_succ]
                    refine take_dst 24 115 (v := undef) rfl (by kernel_rfl) (by kernel_rfl) (by kernel_rfl) rfl (fun c _ _ h => absurd rfl (h.1 c)) (Or.inr ⟨by rfl, rfl⟩) (by assumption) ?_
                    simp only [Act.put, List.setIfInBounds_toArray, List.set_cons_zero, List.set_cons_succ]
                    refine take_dst 25 116 (v := .bool false) rfl (by kernel_rfl) (by kernel_rfl) (by kernel_rfl) rfl (fun c _ _ h => absurd rfl (h.1 c)) (Or.inl ⟨by rfl, ?_⟩) (by assumption) ?_
                    · intro wx hSw
                      first | (go_simp; done) | (go_simp; simp; done) | (go_simp; simp; omega) | (go_simp; omega) | (go_simp; exact decide_eq_false (by omega)) | (go_simp; exact decide_eq_true (by omega))
                    simp only [Act.put, List.setIfInBounds_toArray, List.set_cons_zero, List.set_cons_succ]
                    refine take_dst 26 117 (v := .bool false) rfl (by kernel_rfl) (by kernel_rfl) (by kernel_rfl) rfl (fun c _ _ h => absurd rfl (h.1 c)) (Or.inl ⟨by rfl, ?_⟩) (by assumption) ?_
                    · intro wx hSw
                      first | (go_simp; done) | (go_simp; simp; done) | (go_simp; simp; omega) | (go_simp; omega) | (go_simp; exact decide_eq_false (by omega)) | (go_simp; exact decide_eq_true (by omega))
                    simp only [Act.put, List.setIfInBounds_toArray, List.set_cons_zero, List.set_cons_succ]
                    refine wpAnyH_done (by kernel_rfl) ?_ _
                    refine ⟨fun c h => (by cases h), ?_⟩
                    clear hHeld k1 k2 x0 x1 v3
                    generalize Wb.drew = Wd at *
                    go_wp2
                    go_roundw
                    case rel => exact ⟨hh + 1, by omega, by go_num, by rw [Hs2.out], HEd.out⟩
                    case measure => simp [intOf]; omega
                · have hhe : hh = S.heaps.toNat + 1 := by omega
                  have hfr : B + S.fr cc hh = A + frC S (cc + 1) := by rw [hhe]; exact HB.out.symm
                  rw [hfr]
                  have HEe : Hid (Ext none1 w2 wr) := HE4.out.trans hE5
                  obtain ⟨Fv, hFv⟩ : ∃ Fv, Fv = A + frC S (cc + 1) := ⟨_, rfl⟩
                  rw [← hFv]
                  have HFv : Hid (Value.int .i64 Fv = .int .i64 (A + frC S (cc + 1))) := by show _ = _; rw [hFv]
                  clear hE5 hhe hfr HX5 u0 u3 hFv
                  go_wp2
                  go_roundw
                  case rel => exact ⟨cc + 1, by omega, by go_num, HFv.out, HEe.out⟩
                  case measure => simp [intOf]; omega
            · obtain rfl : cc = 3 := by omega
              have u0 := (hE4.cell fl 0 hlf).trans f0
              rw [Hall.out]
              have hX4 := FX.keep face HX2.out hE4
              have HEr4 : Hid _ := HEr2.out.trans hE4
              obtain ⟨m, bf, bz, _, ht, _⟩ := hX4.b2
              have Hlv : Hid _ := live_any wr x m bf bz S ht
              have Ht : Hid _ := ht
              have Hb1 : Hid _ := hX4.b1
              have hnil := fun_not_nil
              clear hX4 hE4 ht
              go_wp2_with fail
              refine Calls.mono Hlv.out ?_
              clear Hlv
              rintro e w' ⟨rfl, rfl⟩
              have hE7 : Ext none1 wr ((wr.alloc (.cells #[.pointer (some ⟨m, 0, none⟩)] 69)).alloc (.cells #[.int .i64 0] 3)) := ((Ext.refl _ _).alloc _).alloc _
              have hbb := heap2 wr (.cells #[.pointer (some ⟨m, 0, none⟩)] 69) (.cells #[.int .i64 0] 3)
              go_wp2_with fail
              clear hnil u0
              generalize ((wr.alloc (.cells #[.pointer (some ⟨m, 0, none⟩)] 69)).alloc (.cells #[.int .i64 0] 3)) = W7 at *
              have hs7 := lt_of_heap hbb.2
              have hP7 := Ht.out.pr.keep0 hE7
              have hb7 := hE7.keep Hb1.out (fun x => x)
              have hE07 := HEr4.out.trans hE7
              refine (wpIn_wide (n := 16)).1 ?_
              refine range_J (hro := rfl) (by omega) (gf := 61) (lb := #[.pointer (some ⟨wr.heap.size, 0, none⟩)]) rfl trivial (enters_of Tryd.func61 (by kernel_rfl) rfl)
                (live_J 15 (by omega) none1 m bf bz wr.heap.size S hI.toInv0 W7 (fun k h => h.elim) hbb.1 hP7)
                (fun a b => a.trans b) (fun W l o _ => stay_put _ W l o) (fun _ => rfl)
                (fun _ U => U.heap[wr.heap.size + 1]? = some (.cells #[.int .i64 0] 3 (0, 0)) ∧ Ext none1 W7 U)
                (fun _ _ _ => False)
                (OwnFrom.and (ownFrom_block (by omega) _) (ownExt (Nat.le_refl _)))
                (fun _ _ _ _ _ h _ _ => h) (fun _ _ _ => trivial) ⟨hbb.2, Ext.refl _ _⟩ _ (fun l x W K hK => wpIn_skip hK) ?body ?done ?stop
              case body =>
                intro l pre y U _ _ hok
                rw [hbn] at hok
                obtain ⟨t, ht⟩ := hok
                simp at ht
              case done =>
                rintro D ys U hD _ ⟨g2, hE⟩ hKd
                have y0 := cell_of g2 0
                have y2 := cell_of (hE.keep hb7 (fun x => x)) 2
                simp at y0 y2
                have HEU : Hid (Ext none1 W U) := hE07.trans hE
                have hDW : W.heap.size ≤ D := Nat.le_trans hE07.size hD
                clear hE g2
                go_wp2
                exact HQQ.out _ _ _ rfl hKd hDW HEU.out
              case stop =>
                rintro D c pre U _ _ h _
                exact h.elim
end Go.Proofs.YtbagfepdmmfegaaDoor
