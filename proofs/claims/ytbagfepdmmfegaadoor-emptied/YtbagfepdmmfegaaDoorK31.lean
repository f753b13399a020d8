import Derived.Test.YtbagfepdmmfegaaDoorK30
import Derived.Test.YtbagfepdmmfegaaDoorK29
set_option linter.unusedVariables false
set_option linter.unusedSimpArgs false
/- LEAN. -/
namespace Go.Proofs.YtbagfepdmmfegaaDoor
open Go.RowKit

/-- the frames that the first c classes hold -/
def frC (S : Ti.St) (c : Nat) : Int := Ti.sumTo (fun c => S.fr c (S.heaps.toNat + 1)) c
theorem fr_bd {S : Ti.St} (hI : Ti.Inv0 S) (c : Int) (n : Nat) : 0 ≤ S.fr c n ∧ S.fr c n ≤ 16 * n := by
  induction n with
  | zero => simp [Ti.St.fr, Ti.sumTo]
  | succ n ih =>
    have := stats_bd S (Bd.of S hI) n c
    simp only [Ti.St.fr, Ti.sumTo] at ih ⊢
    omega
theorem frC_bd {S : Ti.St} (hI : Ti.Inv0 S) (c : Nat) : 0 ≤ frC S c ∧ frC S c ≤ 80 * c := by
  induction c with
  | zero => simp [frC, Ti.sumTo]
  | succ c ih =>
    have h1 := fr_bd hI c (S.heaps.toNat + 1)
    have h2 := hI.h4
    simp only [frC, Ti.sumTo] at ih ⊢
    omega
theorem frC_all {S : Ti.St} {L : List Hb} (h : Ti.FarmOk S (L.map Hb.b)) : (S.freeFrames : Int) + frTo L L.length + frC S 3 = S.sups.length := by
  have := frTo_all h
  simp only [frC, Ti.sumTo, show ((0 : Nat) : Int) = 0 from rfl, show ((0 + 1 : Nat) : Int) = 1 from rfl, show ((0 + 1 + 1 : Nat) : Int) = 2 from rfl]
  omega
theorem chgs_bd {S : Ti.St} (hI : Ti.Inv0 S) (c : Int) (n : Nat) : 0 ≤ Ti.sumTo (fun h => S.charged h c) n ∧ Ti.sumTo (fun h => S.charged h c) n ≤ 524288 * n := by
  induction n with
  | zero => simp [Ti.sumTo]
  | succ n ih =>
    have := stats_bd S (Bd.of S hI) n c
    simp only [Ti.sumTo] at ih ⊢
    omega
set_option maxRecDepth 100000 in
set_option maxHeartbeats 8000000 in
theorem lean_any (W : World) (hG : GlobAt W) (h n s : Int)
    (h0 : -9223372036854775808 ≤ h) (h1 : h ≤ 9223372036854775807) (n0 : -9223372036854775808 ≤ n) (n1 : n ≤ 9223372036854775807) (s0 : -9223372036854775808 ≤ s) (s1 : s ≤ 9223372036854775807)
    (sv : Value) (ops : List O3) (hs : S3At W sv ops) (hlen : ops.length ≤ 5864062014806) (hok : ∀ o ∈ ops, o.ok) :
    Calls Tryd.prog 6 #[.agg #[.int .i64 h, .int .i64 n, .int .i64 s], sv] W fun e W' => e = .returned (.bool true) ∧ Ext none1 W W' := by
  obtain ⟨pa, cap, rfl, hcells⟩ := hs.shape
  obtain ⟨N, hN⟩ : ∃ N, ops.length = N := ⟨_, rfl⟩
  have HC : Hid _ := hcells
  have HO : Hid _ := hok
  have HN : Hid (ops.length = N) := hN
  rw [hN] at hlen ⊢
  clear hs hcells hok hN
  have hE0 : Ext none1 W (W.alloc (.cells #[.int .i64 h, .int .i64 n, .int .i64 s] 26)) := (Ext.refl _ _).alloc _
  have Hop : Hid _ := Mid.opened face _ (hG.keep hE0 (fun x => x)) h n s h0 h1 n0 n1 s0 s1
  obtain ⟨W0, HW0⟩ : ∃ W0, Hid (W.alloc (.cells #[.int .i64 h, .int .i64 n, .int .i64 s] 26) = W0) := ⟨_, rfl⟩
  rw [HW0.out] at hE0
  have HE0 : Hid _ := hE0
  clear hE0 hG
  go_enter Tryd.func6, Tryd.ntmps6
  go_wp2_with fail
  refine Calls.mono Hop.out ?_
  clear Hop
  rw [HW0.out]
  clear HW0
  rintro e W1 ⟨fl, rfl, hE1, hm⟩
  have HM : Hid _ := hm
  clear hm hE1
  go_wp2
  go_loopw [6, 7, 8, 9, 10, 11, 12, 13, 14] (fun i _ _ _ _ _ _ _ _ wr => ∃ (k : Nat) (S : Ti.St) (L : List Hb), k ≤ N ∧ i = .int .i64 k ∧ Mid PrIs W0 wr fl (1 + pickI h 4) (1 + pickI n 16) (1 + pickI s 4) S L)
    (fun i _ _ _ _ _ _ _ _ _ => N - (intOf i).toNat)
  case atStart => exact ⟨0, _, _, Nat.zero_le _, rfl, HM.out⟩
  case round =>
    obtain ⟨k, S0, L0, hk, rfl, hm⟩ := hrel
    have hEr : Ext none1 W wr := HE0.out.trans (let ⟨_, _, e, _⟩ := hm; e)
    by_cases hlt : k < N
    · obtain ⟨o, ho⟩ : ∃ o, ops[k]? = some o := ⟨_, List.getElem?_eq_getElem (by rw [HN.out]; exact hlt)⟩
      have hook := HO.out o (List.mem_of_getElem? ho)
      obtain ⟨ad, rfl, hadl, q0, q1, q2⟩ := HC.out k o ho
      have hcw : ∀ j, wr.cell? (ad.add j) = W.cell? (ad.add j) := fun j => World.cell?_of_block (hEr.block _ (by rw [add_block]; exact hadl) (fun x => x))
      rw [← hcw] at q0 q1 q2
      rw [← cell_add _ _ _ _ (by omega)] at q1 q2
      have hlt' : (k : Int) < (N : Int) := by omega
      have Hst : Hid _ := Mid.step face hm o hook
      clear hm HM hcw
      go_wp2_with fail
      refine Calls.mono Hst.out ?_
      clear Hst q0 q1 q2
      rintro e V ⟨rfl, S, L, hm, _, _⟩
      have HM2 : Hid _ := hm
      obtain ⟨foot, hA, hE, hf, hfl2, e1, e2, e3, hlean⟩ := hm
      have hfew := hA.few
      have hokS := hA.ok
      obtain ⟨fp, x, v, hX⟩ := hA.fx
      obtain ⟨pv, capv, rfl, hpv⟩ : ∃ pv capv, v = .slice pv L.length capv ∧ (0 < L.length → ∃ g, pv = some ⟨g, 0, none⟩) := by
        rcases hX.b3.2 with ⟨rfl, e⟩ | ⟨g, cap, cur, rfl, _⟩
        · exact ⟨none, 0, by rw [e], fun h => by omega⟩
        · exact ⟨_, cap, rfl, fun _ => ⟨g, rfl⟩⟩
      have hlf := lt_of_heap hX.b1
      have hI := hX.hA.ok.inv
      have h16 := hI.f16
      have hh1 := hI.h1
      have hh4 := hI.h4
      have hs1 := hI.s1
      have hs4 := hI.s4
      have f0 := cell_of hX.b1 0
      have f1 := cell_of hX.b1 1
      have f2 := cell_of hX.b1 2
      have f3 := cell_of hX.b1 3
      have f4 := cell_of hX.b1 4
      simp at f0 f1 f2 f3 f4
      have Hrow : Hid (∀ g, pv = some ⟨g, 0, none⟩ → g < V.heap.size ∧ ∀ (i : Nat) (y : Hb), L[i]? = some y → V.cell? ⟨g, i * 3 + 1, none⟩ = some (.int .i64 y.b.size)) := by
        rintro g rfl
        refine ⟨(own_base hX.b3 rfl).2, fun i y hy => ?_⟩
        have g1 := hX.b3.cells (g := g) rfl _ _ (encB_get L i y hy).2.1
        rwa [addr_add] at g1
      have Hwi : Hid (∀ y ∈ L, 1 ≤ y.b.size ∧ y.b.size ≤ 256) := fun y hy => by
        have := Ti.within_of S hI.toInv0 (hX.hA.ok.mem (List.mem_map.2 ⟨y, hy, rfl⟩))
        exact ⟨this.1, this.2.1⟩
      have Hfr : Hid _ := face.frames V x fp S hX.b2 hI
      have HX : Hid _ := hX
      have Hall := frC_all hokS
      have hfb : (S.freeFrames : Int) ≤ 16 := by
        have := (frTo_bd hokS L.length).1
        have := (frC_bd hI.toInv0 3).1
        omega
      have Hall : Hid _ := Hall
      have Hok : Hid _ := hokS
      have Hlean : Hid _ := hlean
      clear hX hA hE hf e1 e2 e3 hokS hlean
      go_wp2_with fail
      refine Calls.mono Hfr.out ?_
      clear Hfr
      rintro e w2 ⟨rfl, hE2⟩
      have HX2 : Hid _ := FX.keep face HX.out hE2
      have HM3 : Hid _ := Mid.keep face HM2.out hE2
      rw [← hE2.cell fl _ hlf] at f0 f1 f2 f3 f4
      have hlf := Nat.lt_of_lt_of_le hlf hE2.size
      have Hrow : Hid (∀ g, pv = some ⟨g, 0, none⟩ → ∀ (i : Nat) (y : Hb), L[i]? = some y → w2.cell? ⟨g, i * 3 + 1, none⟩ = some (.int .i64 y.b.size)) := fun g hg i y hy => by
        obtain ⟨a, b⟩ := Hrow.out g hg
        rw [hE2.cell g _ a]
        exact b i y hy
      obtain ⟨ff, hff⟩ : ∃ ff, ff = S.freeFrames := ⟨_, rfl⟩
      rw [← hff] at hfb Hall ⊢
      clear hE2 HX HM2 hff
      have hb0 := frTo_bd Hok.out 0
      go_wp2
      go_loopw [8, 9] (fun t8 t9 w3 => ∃ m : Nat, m ≤ L.length ∧ t9 = .int .i64 m ∧ t8 = .int .i64 ((ff : Int) + frTo L m) ∧ w3 = w2) (fun _ t9 _ => L.length - (intOf t9).toNat)
      case atStart => exact ⟨0, Nat.zero_le _, rfl, by simp [frTo, Ti.sumL], rfl⟩
      case round =>
        obtain ⟨m, hml, rfl, rfl, hwr⟩ := hrel
        rw [hwr]
        have hb := frTo_bd Hok.out m
        by_cases hmlt : m < L.length
        · obtain ⟨g, rfl⟩ := hpv (by omega)
          obtain ⟨y, hy⟩ : ∃ y, L[m]? = some y := ⟨_, List.getElem?_eq_getElem hmlt⟩
          have g1 := Hrow.out g rfl m y hy
          have hmlt' : (m : Int) < (L.length : Int) := by omega
          have hsu := frTo_succ L m y hy
          obtain ⟨y1, y2⟩ := Hwi.out y (List.mem_of_getElem? hy)
          by_cases hbig : 32 < y.b.size
          · have Hsu : Hid (frTo L (m + 1) = frTo L m + (y.b.size + 63) / 64) := by
              show _ = _
              rw [hsu]; unfold Ti.frames Ti.Bl.key; rw [if_pos (by exact hbig)]
            have htd : (y.b.size + 63).tdiv 64 = (y.b.size + 63) / 64 := Int.tdiv_eq_ediv_of_nonneg (by omega)
            have hwr1 : IntKind.i64.wrap (y.b.size + 63) = y.b.size + 63 := by rw [IntKind.wrap_i64]; omega
            have hwr2 : IntKind.i64.wrap ((ff : Int) + frTo L m + (y.b.size + 63) / 64) = (ff : Int) + frTo L m + (y.b.size + 63) / 64 := by rw [IntKind.wrap_i64]; omega
            clear hsu
            go_wp2
            go_roundw
            case rel => exact ⟨m + 1, by omega, by go_num, by rw [Hsu.out]; go_num, (by first | rfl | trivial)⟩
            case measure => simp [intOf]; omega
          · have Hsu : Hid (frTo L (m + 1) = frTo L m) := by
              show _ = _
              rw [hsu]; unfold Ti.frames Ti.Bl.key; rw [if_neg (by exact hbig)]; omega
            clear hsu
            go_wp2
            go_roundw
            case rel => exact ⟨m + 1, by omega, by go_num, by rw [Hsu.out], (by first | rfl | trivial)⟩
            case measure => simp [intOf]; omega
        · obtain rfl : m = L.length := by omega
          obtain ⟨A, hA⟩ : ∃ A : Int, A = (ff : Int) + frTo L L.length := ⟨_, rfl⟩
          have hAb : 0 ≤ A ∧ A ≤ 8192 := by omega
          have HA3 : Hid (A + frC S 3 = S.sups.length) := by show _ = _; rw [hA]; exact Hall.out
          rw [← hA]
          clear hA hwr Hall hb hb0 Hrow
          go_wp2
          go_loopw [8, 10, 11, 12, 13, 14] (fun t8 t10 _ _ _ _ w4 => ∃ cc : Nat, cc ≤ 3 ∧ t10 = .int .i64 cc ∧ t8 = .int .i64 (A + frC S cc) ∧ Ext none1 w2 w4) (fun _ t10 _ _ _ _ _ => 3 - (intOf t10).toNat)
          case atStart => exact ⟨0, by omega, rfl, by simp [frC, Ti.sumTo], Ext.refl _ _⟩
          case round =>
            obtain ⟨cc, hcc, rfl, rfl, hE4⟩ := hrel
            have hcb := frC_bd hI.toInv0 cc
            by_cases hc3 : cc < 3
            · have hc3' : (cc : Int) < 3 := by omega
              obtain ⟨w4, hw4⟩ : ∃ w4, w4 = wr := ⟨_, rfl⟩
              rw [← hw4] at hE4 ⊢
              clear hw4
              have HE4 : Hid _ := hE4
              have hlf4 := Nat.lt_of_lt_of_le hlf hE4.size
              obtain ⟨B, hB⟩ : ∃ B : Int, B = A + frC S cc := ⟨_, rfl⟩
              have HB : Hid (A + frC S (cc + 1) = B + S.fr cc (S.heaps.toNat + 1)) := by show _ = _; rw [hB]; simp only [frC, Ti.sumTo]; omega
              have hBb : 0 ≤ B ∧ B ≤ 16384 := by omega
              rw [← hB]
              have g0 := (hE4.cell fl 0 hlf).trans f0
              have g1 := (hE4.cell fl 1 hlf).trans f1
              have g3 := (hE4.cell fl 3 hlf).trans f3
              have HX4 : Hid _ := FX.keep face HX2.out hE4
              clear hB hE4
              go_wp2
              go_loopw [8, 11, 12, 13, 14] (fun t8 t11 t12 _ _ w5 => ∃ hh : Nat, (hh : Int) ≤ S.heaps + 1 ∧ t12 = .int .i64 hh ∧ t11 = .int .i64 (Ti.sumTo (fun h => S.charged h cc) hh) ∧ t8 = .int .i64 (B + S.fr cc hh) ∧ Ext none1 w4 w5) (fun _ _ t12 _ _ _ => (S.heaps + 1).toNat - (intOf t12).toNat)
              case atStart => exact ⟨0, by omega, rfl, rfl, by simp [Ti.St.fr, Ti.sumTo], Ext.refl _ _⟩
              case round =>
                obtain ⟨hh, hhl, rfl, rfl, rfl, hE5⟩ := hrel
                have u0 := (hE5.cell fl 0 hlf4).trans g0
                have u1 := (hE5.cell fl 1 hlf4).trans g1
                have u3 := (hE5.cell fl 3 hlf4).trans g3
                have hub := chgs_bd hI.toInv0 cc hh
                have hfb5 := fr_bd hI.toInv0 cc hh
                have HX5 : Hid _ := FX.keep face HX4.out hE5
                by_cases hhlt : (hh : Int) ≤ S.heaps
                · have hso := stats_ok S hh cc (by omega) (by omega) (by omega) (by omega)
                  have hdb := stats_bd S (Bd.of S hI.toInv0) hh cc
                  have hmod := Ti.held_mod S hh cc
                  have hle := Ti.charged_le S hI.toInv0 hh cc
                  have hln : 0 < (hh : Int) → S.held hh cc ≤ S.charged hh cc + 64 * S.slack ∨ S.held hh cc ≤ 2 * S.charged hh cc := Hlean.out hh cc
                  have Hst : Hid _ := face.stats wr x fp S hh cc HX5.out.b2 hI
                  rw [hso] at Hst
                  have Hs1 : Hid (Ti.sumTo (fun h => S.charged h cc) (hh + 1) = Ti.sumTo (fun h => S.charged h cc) hh + S.charged hh cc) := rfl
                  have Hs2 : Hid (B + S.fr cc (hh + 1) = B + S.fr cc hh + S.held hh cc / 64) := by
                    show _ = _
                    simp only [Ti.St.fr, Ti.sumTo]; omega
                  have hfv : 0 ≤ B + S.fr cc hh ∧ B + S.fr cc hh ≤ 32768 := by omega
                  generalize S.held hh cc = Hd at *
                  generalize S.charged hh cc = Ch at *
                  generalize Ti.sumTo (fun h => S.charged h cc) hh = U at *
                  generalize B + S.fr cc hh = Fv at *
                  have hlf5 := Nat.lt_of_lt_of_le hlf4 hE5.size
                  have HE5 : Hid _ := hE5
                  have htm : Hd.tmod 64 = 0 := by rw [Int.tmod_eq_emod_of_nonneg (by omega)]; exact hmod
                  have htd : Hd.tdiv 64 = Hd / 64 := Int.tdiv_eq_ediv_of_nonneg (by omega)
                  have hnl : ¬ Hd < Ch := by omega
                  have hwU : IntKind.i64.wrap (U + Ch) = U + Ch := by rw [IntKind.wrap_i64]; omega
                  have hwF : IntKind.i64.wrap (Fv + Hd / 64) = Fv + Hd / 64 := by rw [IntKind.wrap_i64]; omega
                  have hw1 : IntKind.i64.wrap (64 * S.slack) = 64 * S.slack := by rw [IntKind.wrap_i64]; omega
                  have hw2 : IntKind.i64.wrap (Ch + 64 * S.slack) = Ch + 64 * S.slack := by rw [IntKind.wrap_i64]; omega
                  have hw3 : IntKind.i64.wrap (2 * Ch) = 2 * Ch := by rw [IntKind.wrap_i64]; omega
                  clear hE5 hso HX5
                  go_wp2_with fail
                  refine Calls.mono Hst.out ?_
                  clear Hst
                  rintro e w6 ⟨rfl, hE6⟩
                  have hEb : Ext none1 wr (w6.alloc (.cells #[.int .i64 Hd, .int .i64 Ch] 44)) := hE6.alloc _
                  have hbs := heap_alloc_new w6 (.cells #[.int .i64 Hd, .int .i64 Ch] 44)
                  have v3 := (hEb.cell fl 3 hlf5).trans u3
                  go_wp2_with fail
                  generalize w6.alloc (.cells #[.int .i64 Hd, .int .i64 Ch] 44) = Wb at *
                  obtain ⟨bs, hbsd⟩ : ∃ bs, bs = w6.heap.size := ⟨_, rfl⟩
                  rw [← hbsd] at hbs ⊢
                  have x0 := cell_of hbs 0
                  have x1 := cell_of hbs 1
                  simp at x0 x1
                  have hbl := lt_of_heap hbs
                  have k1 : ∀ (w' : World) (o : Nat), Ext none1 Wb w' → w'.cell? ⟨bs, o, none⟩ = Wb.cell? ⟨bs, o, none⟩ := fun w' o hE => hE.cell bs o hbl
                  have k2 : ∀ (w' : World) (o : Nat), Ext none1 Wb w' → w'.cell? ⟨fl, o, none⟩ = Wb.cell? ⟨fl, o, none⟩ := fun w' o hE => hE.cell fl o (Nat.lt_of_lt_of_le hlf5 hEb.size)
                  have HEd : Hid (Ext none1 w4 Wb.drew) := (HE5.out.trans hEb).drew
                  have z0 : Wb.drew.cell? ⟨bs, 0, none⟩ = some (.int .i64 Hd) := (k1 _ 0 (Ext.refl _ _).drew).trans x0
                  have z1 : Wb.drew.cell? ⟨bs, 1, none⟩ = some (.int .i64 Ch) := (k1 _ 1 (Ext.refl _ _).drew).trans x1
                  clear hE6 hEb hbsd u0 u1 u3 htm hmod hbs
                  by_cases hz : (0 : Int) < (hh : Int)
                  · by_cases hbg : Ch + 64 * S.slack < Hd
                    · have hn2 : ¬ 2 * Ch < Hd := by have := hln hz; omega
                      refine wp_region_held_drew (S := fun w' => Ext none1 Wb w') (by kernel_rfl) (Ext.refl _ _).drew (fun hHeld => ?_)
                      refine take_dst 0 106 (v := ?_) rfl (by kernel_rfl) (by kernel_rfl) (by kernel_rfl) rfl (fun _ _ _ h => h) (Or.inl ⟨by rfl, ?_⟩) (by assumption) ?_
                      rotate_left
                      · intro wx hSw
                        first | (go_simp; done) | (go_simp; with_reducible rfl)
                      simp only [Act.put, List.setIfInBounds_toArray, List.set_cons_zero, List.set_cons_succ]
                      refine take_dst 1 107 (v := .bool true) rfl (by kernel_rfl) (by kernel_rfl) (by kernel_rfl) rfl (fun _ _ _ h => h) (Or.inl ⟨by rfl, ?_⟩) (by assumption) ?_
                      · intro wx hSw
                        first | (go_simp; done) | (go_simp; simp; done) | (go_simp; simp; omega) | (go_simp; omega) | (go_simp; exact decide_eq_false (by omega)) | (go_simp; exact decide_eq_true (by omega))
                      simp only [Act.put, List.setIfInBounds_toArray, List.set_cons_zero, List.set_cons_succ]
                      refine take_dst 2 108 (v := ?_) rfl (by kernel_rfl) (by kernel_rfl) (by kernel_rfl) rfl (fun _ _ _ h => h) (Or.inl ⟨by rfl, ?_⟩) (by assumption) ?_
                      rotate_left
                      · intro wx hSw
                        first | (go_simp; done) | (go_simp; with_reducible rfl)
                      simp only [Act.put, List.setIfInBounds_toArray, List.set_cons_zero, List.set_cons_succ]
                      refine take_dst 3 109 (v := ?_) rfl (by kernel_rfl) (by kernel_rfl) (by kernel_rfl) rfl (fun _ _ _ h => h) (Or.inl ⟨by rfl, ?_⟩) (by assumption) ?_
                      rotate_left
                      · intro wx hSw
                        first | (go_simp; done) | (go_simp; with_reducible rfl)
                      simp only [Act.put, List.setIfInBounds_toArray, List.set_cons_zero, List.set_cons_succ]
                      refine take_dst 4 110 (v := ?_) rfl (by kernel_rfl) (by kernel_rfl) (by kernel_rfl) rfl (fun _ _ _ h => h) (Or.inl ⟨by rfl, ?_⟩) (by assumption) ?_
                      rotate_left
                      · intro wx hSw
                        first | (go_simp; done) | (go_simp; with_reducible rfl)
                      simp only [Act.put, List.setIfInBounds_toArray, List.set_cons_zero, List.set_cons_succ]
                      refine take_dst 5 111 (v := ?_) rfl (by kernel_rfl) (by kernel_rfl) (by kernel_rfl) rfl (fun _ _ _ h => h) (Or.inl ⟨by rfl, ?_⟩) (by assumption) ?_
                      rotate_left
                      · intro wx hSw
                        first | (go_simp; done) | (go_simp; with_reducible rfl)
                      simp only [Act.put, List.setIfInBounds_toArray, List.set_cons_zero, List.set_cons_succ]
                      refine take_dst 6 112 (v := ?_) rfl (by kernel_rfl) (by kernel_rfl) (by kernel_rfl) rfl (fun _ _ _ h => h) (Or.inl ⟨by rfl, ?_⟩) (by assumption) ?_
                      rotate_left
                      · intro wx hSw
                        first | (go_simp; done) | (go_simp; with_reducible rfl)
                      simp only [Act.put, List.setIfInBounds_toArray, List.set_cons_zero, List.set_cons_succ]
                      refine take_dst 7 113 (v := ?_) rfl (by kernel_rfl) (by kernel_rfl) (by kernel_rfl) rfl (fun _ _ _ h => h) (Or.inl ⟨by rfl, ?_⟩) (by assumption) ?_
                      rotate_left
                      · intro wx hSw
                        first | (go_simp; done) | (go_simp; with_reducible rfl)
                      simp only [Act.put, List.setIfInBounds_toArray, List.set_cons_zero, List.set_cons_succ]
                      refine take_dst 8 114 (v := ?_) rfl (by kernel_rfl) (by kernel_rfl) (by kernel_rfl) rfl (fun _ _ _ h => h) (Or.inl ⟨by rfl, ?_⟩) (by assumption) ?_
                      rotate_left
                      · intro wx hSw
                        first | (go_simp; done) | (go_simp; with_reducible rfl)
                      simp only [Act.put, List.setIfInBounds_toArray, List.set_cons_zero, List.set_cons_succ]
                      refine take_dst 9 115 (v := ?_) rfl (by kernel_rfl) (by kernel_rfl) (by kernel_rfl) rfl (fun _ _ _ h => h) (Or.inl ⟨by rfl, ?_⟩) (by assumption) ?_
                      rotate_left
                      · intro wx hSw
                        first | (go_simp; done) | (go_simp; with_reducible rfl)
                      simp only [Act.put, List.setIfInBounds_toArray, List.set_cons_zero, List.set_cons_succ]
                      refine take_dst 10 116 (v := ?_) rfl (by kernel_rfl) (by kernel_rfl) (by kernel_rfl) rfl (fun _ _ _ h => h) (Or.inl ⟨by rfl, ?_⟩) (by assumption) ?_
                      rotate_left
                      · intro wx hSw
                        first | (go_simp; done) | (go_simp; with_reducible rfl)
                      simp only [Act.put, List.setIfInBounds_toArray, List.set_cons_zero, List.set_cons_succ]
                      refine take_dst 11 117 (v := ?_) rfl (by kernel_rfl) (by kernel_rfl) (by kernel_rfl) rfl (fun _ _ _ h => h) (Or.inl ⟨by rfl, ?_⟩) (by assumption) ?_
                      rotate_left
                      · intro wx hSw
                        first | (go_simp; done) | (go_simp; with_reducible rfl)
                      simp only [Act.put, List.setIfInBounds_toArray, List.set_cons_zero, List.set_cons_succ]
                      refine take_dst 12 118 (v := ?_) rfl (by kernel_rfl) (by kernel_rfl) (by kernel_rfl) rfl (fun _ _ _ h => h) (Or.inl ⟨by rfl, ?_⟩) (by assumption) ?_
                      rotate_left
                      · intro wx hSw
                        first | (go_simp; done) | (go_simp; with_reducible rfl)
                      simp only [Act.put, List.setIfInBounds_toArray, List.set_cons_zero, List.set_cons_succ]
                      refine take_dst 13 119 (v := ?_) rfl (by kernel_rfl) (by kernel_rfl) (by kernel_rfl) rfl (fun _ _ _ h => h) (Or.inl ⟨by rfl, ?_⟩) (by assumption) ?_
                      rotate_left
                      · intro wx hSw
                        first | (go_simp; done) | (go_simp; with_reducible rfl)
                      simp only [Act.put, List.setIfInBounds_toArray, List.set_cons_zero, List.set_cons_succ]
                      refine take_dst 14 120 (v := .bool true) rfl (by kernel_rfl) (by kernel_rfl) (by kernel_rfl) rfl (fun _ _ _ h => h) (Or.inl ⟨by rfl, ?_⟩) (by assumption) ?_
                      · intro wx hSw
                        first | (go_simp; done) | (go_simp; simp; done) | (go_simp; simp; omega) | (go_simp; omega) | (go_simp; exact decide_eq_false (by omega)) | (go_simp; exact decide_eq_true (by omega))
                      simp only [Act.put, List.setIfInBounds_toArray, List.set_cons_zero, List.set_cons_succ]
                      refine take_dst 15 121 (v := .bool true) rfl (by kernel_rfl) (by kernel_rfl) (by kernel_rfl) rfl (fun _ _ _ h => h) (Or.inl ⟨by rfl, ?_⟩) (by assumption) ?_
                      · intro wx hSw
                        first | (go_simp; done) | (go_simp; simp; done) | (go_simp; simp; omega) | (go_simp; omega) | (go_simp; exact decide_eq_false (by omega)) | (go_simp; exact decide_eq_true (by omega))
                      simp only [Act.put, List.setIfInBounds_toArray, List.set_cons_zero, List.set_cons_succ]
                      refine take_dst 16 122 (v := ?_) rfl (by kernel_rfl) (by kernel_rfl) (by kernel_rfl) rfl (fun _ _ _ h => h) (Or.inl ⟨by rfl, ?_⟩) (by assumption) ?_
                      rotate_left
                      · intro wx hSw
                        first | (go_simp; done) | (go_simp; with_reducible rfl)
                      simp only [Act.put, List.setIfInBounds_toArray, List.set_cons_zero, List.set_cons_succ]
                      refine take_dst 17 123 (v := ?_) rfl (by kernel_rfl) (by kernel_rfl) (by kernel_rfl) rfl (fun _ _ _ h => h) (Or.inl ⟨by rfl, ?_⟩) (by assumption) ?_
                      rotate_left
                      · intro wx hSw
                        first | (go_simp; done) | (go_simp; with_reducible rfl)
                      simp only [Act.put, List.setIfInBounds_toArray, List.set_cons_zero, List.set_cons_succ]
                      refine take_dst 18 124 (v := ?_) rfl (by kernel_rfl) (by kernel_rfl) (by kernel_rfl) rfl (fun _ _ _ h => h) (Or.inl ⟨by rfl, ?_⟩) (by assumption) ?_
                      rotate_left
                      · intro wx hSw
                        first | (go_simp; done) | (go_simp; with_reducible rfl)
                      simp only [Act.put, List.setIfInBounds_toArray, List.set_cons_zero, List.set_cons_succ]
                      refine take_dst 19 125 (v := ?_) rfl (by kernel_rfl) (by kernel_rfl) (by kernel_rfl) rfl (fun _ _ _ h => h) (Or.inl ⟨by rfl, ?_⟩) (by assumption) ?_
                      rotate_left
                      · intro wx hSw
                        first | (go_simp; done) | (go_simp; with_reducible rfl)
                      simp only [Act.put, List.setIfInBounds_toArray, List.set_cons_zero, List.set_cons_succ]
                      refine take_dst 20 126 (v := ?_) rfl (by kernel_rfl) (by kernel_rfl) (by kernel_rfl) rfl (fun _ _ _ h => h) (Or.inl ⟨by rfl, ?_⟩) (by assumption) ?_
                      rotate_left
                      · intro wx hSw
                        first | (go_simp; done) | (go_simp; with_reducible rfl)
                      simp only [Act.put, List.setIfInBounds_toArray, List.set_cons_zero, List.set_cons_succ]
                      refine take_dst 21 127 (v := ?_) rfl (by kernel_rfl) (by kernel_rfl) (by kernel_rfl) rfl (fun _ _ _ h => h) (Or.inl ⟨by rfl, ?_⟩) (by assumption) ?_
                      rotate_left
                      · intro wx hSw
                        first | (go_simp; done) | (go_simp; with_reducible rfl)
                      simp only [Act.put, List.setIfInBounds_toArray, List.set_cons_zero, List.set_cons_succ]
                      refine take_dst 22 128 (v := .bool false) rfl (by kernel_rfl) (by kernel_rfl) (by kernel_rfl) rfl (fun _ _ _ h => h) (Or.inl ⟨by rfl, ?_⟩) (by assumption) ?_
                      · intro wx hSw
                        first | (go_simp; done) | (go_simp; simp; done) | (go_simp; simp; omega) | (go_simp; omega) | (go_simp; exact decide_eq_false (by omega)) | (go_simp; exact decide_eq_true (by omega))
                      simp only [Act.put, List.setIfInBounds_toArray, List.set_cons_zero, List.set_cons_succ]
                      refine take_dst 23 129 (v := .bool false) rfl (by kernel_rfl) (by kernel_rfl) (by kernel_rfl) rfl (fun _ _ _ h => h) (Or.inl ⟨by rfl, ?_⟩) (by assumption) ?_
                      · intro wx hSw
                        first | (go_simp; done) | (go_simp; simp; done) | (go_simp; simp; omega) | (go_simp; omega) | (go_simp; exact decide_eq_false (by omega)) | (go_simp; exact decide_eq_true (by omega))
                      simp only [Act.put, List.setIfInBounds_toArray, List.set_cons_zero, List.set_cons_succ]
                      refine wpAnyH_done (by kernel_rfl) ?_ _
                      clear hHeld k1 k2 x0 x1 v3
                      generalize Wb.drew = Wd at *
                      go_wp2
                      go_roundw
                      case rel => exact ⟨hh + 1, by omega, by go_num, by rw [Hs1.out], by rw [Hs2.out], HEd.out⟩
                      case measure => simp [intOf]; omega
                    · refine wp_region_held_drew (S := fun w' => Ext none1 Wb w') (by kernel_rfl) (Ext.refl _ _).drew (fun hHeld => ?_)
                      refine take_dst 0 106 (v := ?_) rfl (by kernel_rfl) (by kernel_rfl) (by kernel_rfl) rfl (fun _ _ _ h => h) (Or.inl ⟨by rfl, ?_⟩) (by assumption) ?_
                      rotate_left
                      · intro wx hSw
                        first | (go_simp; done) | (go_simp; with_reducible rfl)
                      simp only [Act.put, List.setIfInBounds_toArray, List.set_cons_zero, List.set_cons_succ]
                      refine take_dst 1 107 (v := .bool true) rfl (by kernel_rfl) (by kernel_rfl) (by kernel_rfl) rfl (fun _ _ _ h => h) (Or.inl ⟨by rfl, ?_⟩) (by assumption) ?_
                      · intro wx hSw
                        first | (go_simp; done) | (go_simp; simp; done) | (go_simp; simp; omega) | (go_simp; omega) | (go_simp; exact decide_eq_false (by omega)) | (go_simp; exact decide_eq_true (by omega))
                      simp only [Act.put, List.setIfInBounds_toArray, List.set_cons_zero, List.set_cons_succ]
                      refine take_dst 2 108 (v := ?_) rfl (by kernel_rfl) (by kernel_rfl) (by kernel_rfl) rfl (fun _ _ _ h => h) (Or.inl ⟨by rfl, ?_⟩) (by assumption) ?_
                      rotate_left
                      · intro wx hSw
                        first | (go_simp; done) | (go_simp; with_reducible rfl)
                      simp only [Act.put, List.setIfInBounds_toArray, List.set_cons_zero, List.set_cons_succ]
                      refine take_dst 3 109 (v := ?_) rfl (by kernel_rfl) (by kernel_rfl) (by kernel_rfl) rfl (fun _ _ _ h => h) (Or.inl ⟨by rfl, ?_⟩) (by assumption) ?_
                      rotate_left
                      · intro wx hSw
                        first | (go_simp; done) | (go_simp; with_reducible rfl)
                      simp only [Act.put, List.setIfInBounds_toArray, List.set_cons_zero, List.set_cons_succ]
                      refine take_dst 4 110 (v := ?_) rfl (by kernel_rfl) (by kernel_rfl) (by kernel_rfl) rfl (fun _ _ _ h => h) (Or.inl ⟨by rfl, ?_⟩) (by assumption) ?_
                      rotate_left
                      · intro wx hSw
                        first | (go_simp; done) | (go_simp; with_reducible rfl)
                      simp only [Act.put, List.setIfInBounds_toArray, List.set_cons_zero, List.set_cons_succ]
                      refine take_dst 5 111 (v := ?_) rfl (by kernel_rfl) (by kernel_rfl) (by kernel_rfl) rfl (fun _ _ _ h => h) (Or.inl ⟨by rfl, ?_⟩) (by assumption) ?_
                      rotate_left
                      · intro wx hSw
                        first | (go_simp; done) | (go_simp; with_reducible rfl)
                      simp only [Act.put, List.setIfInBounds_toArray, List.set_cons_zero, List.set_cons_succ]
                      refine take_dst 6 112 (v := ?_) rfl (by kernel_rfl) (by kernel_rfl) (by kernel_rfl) rfl (fun _ _ _ h => h) (Or.inl ⟨by rfl, ?_⟩) (by assumption) ?_
                      rotate_left
                      · intro wx hSw
                        first | (go_simp; done) | (go_simp; with_reducible rfl)
                      simp only [Act.put, List.setIfInBounds_toArray, List.set_cons_zero, List.set_cons_succ]
                      refine take_dst 7 113 (v := ?_) rfl (by kernel_rfl) (by kernel_rfl) (by kernel_rfl) rfl (fun _ _ _ h => h) (Or.inl ⟨by rfl, ?_⟩) (by assumption) ?_
                      rotate_left
                      · intro wx hSw
                        first | (go_simp; done) | (go_simp; with_reducible rfl)
                      simp only [Act.put, List.setIfInBounds_toArray, List.set_cons_zero, List.set_cons_succ]
                      refine take_dst 8 114 (v := ?_) rfl (by kernel_rfl) (by kernel_rfl) (by kernel_rfl) rfl (fun _ _ _ h => h) (Or.inl ⟨by rfl, ?_⟩) (by assumption) ?_
                      rotate_left
                      · intro wx hSw
                        first | (go_simp; done) | (go_simp; with_reducible rfl)
                      simp only [Act.put, List.setIfInBounds_toArray, List.set_cons_zero, List.set_cons_succ]
                      refine take_dst 9 115 (v := ?_) rfl (by kernel_rfl) (by kernel_rfl) (by kernel_rfl) rfl (fun _ _ _ h => h) (Or.inl ⟨by rfl, ?_⟩) (by assumption) ?_
                      rotate_left
                      · intro wx hSw
                        first | (go_simp; done) | (go_simp; with_reducible rfl)
                      simp only [Act.put, List.setIfInBounds_toArray, List.set_cons_zero, List.set_cons_succ]
                      refine take_dst 10 116 (v := ?_) rfl (by kernel_rfl) (by kernel_rfl) (by kernel_rfl) rfl (fun _ _ _ h => h) (Or.inl ⟨by rfl, ?_⟩) (by assumption) ?_
                      rotate_left
                      · intro wx hSw
                        first | (go_simp; done) | (go_simp; with_reducible rfl)
                      simp only [Act.put, List.setIfInBounds_toArray, List.set_cons_zero, List.set_cons_succ]
                      refine take_dst 11 117 (v := ?_) rfl (by kernel_rfl) (by kernel_rfl) (by kernel_rfl) rfl (fun _ _ _ h => h) (Or.inl ⟨by rfl, ?_⟩) (by assumption) ?_
                      rotate_left
                      · intro wx hSw
                        first | (go_simp; done) | (go_simp; with_reducible rfl)
                      simp only [Act.put, List.setIfInBounds_toArray, List.set_cons_zero, List.set_cons_succ]
                      refine take_dst 12 118 (v := ?_) rfl (by kernel_rfl) (by kernel_rfl) (by kernel_rfl) rfl (fun _ _ _ h => h) (Or.inl ⟨by rfl, ?_⟩) (by assumption) ?_
                      rotate_left
                      · intro wx hSw
                        first | (go_simp; done) | (go_simp; with_reducible rfl)
                      simp only [Act.put, List.setIfInBounds_toArray, List.set_cons_zero, List.set_cons_succ]
                      refine take_dst 13 119 (v := ?_) rfl (by kernel_rfl) (by kernel_rfl) (by kernel_rfl) rfl (fun _ _ _ h => h) (Or.inl ⟨by rfl, ?_⟩) (by assumption) ?_
                      rotate_left
                      · intro wx hSw
                        first | (go_simp; done) | (go_simp; with_reducible rfl)
                      simp only [Act.put, List.setIfInBounds_toArray, List.set_cons_zero, List.set_cons_succ]
                      refine take_dst 14 120 (v := .bool false) rfl (by kernel_rfl) (by kernel_rfl) (by kernel_rfl) rfl (fun _ _ _ h => h) (Or.inl ⟨by rfl, ?_⟩) (by assumption) ?_
                      · intro wx hSw
                        first | (go_simp; done) | (go_simp; simp; done) | (go_simp; simp; omega) | (go_simp; omega) | (go_simp; exact decide_eq_false (by omega)) | (go_simp; exact decide_eq_true (by omega))
                      simp only [Act.put, List.setIfInBounds_toArray, List.set_cons_zero, List.set_cons_succ]
                      refine take_dst 15 121 (v := .bool false) rfl (by kernel_rfl) (by kernel_rfl) (by kernel_rfl) rfl (fun _ _ _ h => h) (Or.inl ⟨by rfl, ?_⟩) (by assumption) ?_
                      · intro wx hSw
                        first | (go_simp; done) | (go_simp; simp; done) | (go_simp; simp; omega) | (go_simp; omega) | (go_simp; exact decide_eq_false (by omega)) | (go_simp; exact decide_eq_true (by omega))
                      simp only [Act.put, List.setIfInBounds_toArray, List.set_cons_zero, List.set_cons_succ]
                      refine take_dst 16 122 (v := ?_) rfl (by kernel_rfl) (by kernel_rfl) (by kernel_rfl) rfl (fun _ _ _ h => h) (Or.inl ⟨by rfl, ?_⟩) (by assumption) ?_
                      rotate_left
                      · intro wx hSw
                        first | (go_simp; done) | (go_simp; with_reducible rfl)
                      simp only [Act.put, List.setIfInBounds_toArray, List.set_cons_zero, List.set_cons_succ]
                      refine take_dst 17 123 (v := undef) rfl (by kernel_rfl) (by kernel_rfl) (by kernel_rfl) rfl (fun _ _ _ h => h) (Or.inr ⟨by rfl, rfl⟩) (by assumption) ?_
                      simp only [Act.put, List.setIfInBounds_toArray, List.set_cons_zero, List.set_cons_succ]
                      refine take_dst 18 124 (v := undef) rfl (by kernel_rfl) (by kernel_rfl) (by kernel_rfl) rfl (fun _ _ _ h => h) (Or.inr ⟨by rfl, rfl⟩) (by assumption) ?_
                      simp only [Act.put, List.setIfInBounds_toArray, List.set_cons_zero, List.set_cons_succ]
                      refine take_dst 19 125 (v := undef) rfl (by kernel_rfl) (by kernel_rfl) (by kernel_rfl) rfl (fun _ _ _ h => h) (Or.inr ⟨by rfl, rfl⟩) (by assumption) ?_
                      simp only [Act.put, List.setIfInBounds_toArray, List.set_cons_zero, List.set_cons_succ]
                      refine take_dst 20 126 (v := undef) rfl (by kernel_rfl) (by kernel_rfl) (by kernel_rfl) rfl (fun _ _ _ h => h) (Or.inr ⟨by rfl, rfl⟩) (by assumption) ?_
                      simp only [Act.put, List.setIfInBounds_toArray, List.set_cons_zero, List.set_cons_succ]
                      refine take_dst 21 127 (v := undef) rfl (by kernel_rfl) (by kernel_rfl) (by kernel_rfl) rfl (fun _ _ _ h => h) (Or.inr ⟨by rfl, rfl⟩) (by assumption) ?_
                      simp only [Act.put, List.setIfInBounds_toArray, List.set_cons_zero, List.set_cons_succ]
                      refine take_dst 22 128 (v := undef) rfl (by kernel_rfl) (by kernel_rfl) (by kernel_rfl) rfl (fun _ _ _ h => h) (Or.inr ⟨by rfl, rfl⟩) (by assumption) ?_
                      simp only [Act.put, List.setIfInBounds_toArray, List.set_cons_zero, List.set_cons_succ]
                      refine take_dst 23 129 (v := .bool false) rfl (by kernel_rfl) (by kernel_rfl) (by kernel_rfl) rfl (fun _ _ _ h => h) (Or.inl ⟨by rfl, ?_⟩) (by assumption) ?_
                      · intro wx hSw
                        first | (go_simp; done) | (go_simp; simp; done) | (go_simp; simp; omega) | (go_simp; omega) | (go_simp; exact decide_eq_false (by omega)) | (go_simp; exact decide_eq_true (by omega))
                      simp only [Act.put, List.setIfInBounds_toArray, List.set_cons_zero, List.set_cons_succ]
                      refine wpAnyH_done (by kernel_rfl) ?_ _
                      clear hHeld k1 k2 x0 x1 v3
                      generalize Wb.drew = Wd at *
                      go_wp2
                      go_roundw
                      case rel => exact ⟨hh + 1, by omega, by go_num, by rw [Hs1.out], by rw [Hs2.out], HEd.out⟩
                      case measure => simp [intOf]; omega
                  · refine wp_region_held_drew (S := fun w' => Ext none1 Wb w') (by kernel_rfl) (Ext.refl _ _).drew (fun hHeld => ?_)
                    refine take_dst 0 106 (v := ?_) rfl (by kernel_rfl) (by kernel_rfl) (by kernel_rfl) rfl (fun _ _ _ h => h) (Or.inl ⟨by rfl, ?_⟩) (by assumption) ?_
                    rotate_left
                    · intro wx hSw
                      first | (go_simp; done) | (go_simp; with_reducible rfl)
                    simp only [Act.put, List.setIfInBounds_toArray, List.set_cons_zero, List.set_cons_succ]
                    refine take_dst 1 107 (v := .bool false) rfl (by kernel_rfl) (by kernel_rfl) (by kernel_rfl) rfl (fun _ _ _ h => h) (Or.inl ⟨by rfl, ?_⟩) (by assumption) ?_
                    · intro wx hSw
                      first | (go_simp; done) | (go_simp; simp; done) | (go_simp; simp; omega) | (go_simp; omega) | (go_simp; exact decide_eq_false (by omega)) | (go_simp; exact decide_eq_true (by omega))
                    simp only [Act.put, List.setIfInBounds_toArray, List.set_cons_zero, List.set_cons_succ]
                    refine take_dst 2 108 (v := ?_) rfl (by kernel_rfl) (by kernel_rfl) (by kernel_rfl) rfl (fun _ _ _ h => h) (Or.inl ⟨by rfl, ?_⟩) (by assumption) ?_
                    rotate_left
                    · intro wx hSw
                      first | (go_simp; done) | (go_simp; with_reducible rfl)
                    simp only [Act.put, List.setIfInBounds_toArray, List.set_cons_zero, List.set_cons_succ]
                    refine take_dst 3 109 (v := undef) rfl (by kernel_rfl) (by kernel_rfl) (by kernel_rfl) rfl (fun _ _ _ h => h) (Or.inr ⟨by rfl, rfl⟩) (by assumption) ?_
                    simp only [Act.put, List.setIfInBounds_toArray, List.set_cons_zero, List.set_cons_succ]
                    refine take_dst 4 110 (v := undef) rfl (by kernel_rfl) (by kernel_rfl) (by kernel_rfl) rfl (fun _ _ _ h => h) (Or.inr ⟨by rfl, rfl⟩) (by assumption) ?_
                    simp only [Act.put, List.setIfInBounds_toArray, List.set_cons_zero, List.set_cons_succ]
                    refine take_dst 5 111 (v := undef) rfl (by kernel_rfl) (by kernel_rfl) (by kernel_rfl) rfl (fun _ _ _ h => h) (Or.inr ⟨by rfl, rfl⟩) (by assumption) ?_
                    simp only [Act.put, List.setIfInBounds_toArray, List.set_cons_zero, List.set_cons_succ]
                    refine take_dst 6 112 (v := undef) rfl (by kernel_rfl) (by kernel_rfl) (by kernel_rfl) rfl (fun _ _ _ h => h) (Or.inr ⟨by rfl, rfl⟩) (by assumption) ?_
                    simp only [Act.put, List.setIfInBounds_toArray, List.set_cons_zero, List.set_cons_succ]
                    refine take_dst 7 113 (v := undef) rfl (by kernel_rfl) (by kernel_rfl) (by kernel_rfl) rfl (fun _ _ _ h => h) (Or.inr ⟨by rfl, rfl⟩) (by assumption) ?_
                    simp only [Act.put, List.setIfInBounds_toArray, List.set_cons_zero, List.set_cons_succ]
                    refine take_dst 8 114 (v := undef) rfl (by kernel_rfl) (by kernel_rfl) (by kernel_rfl) rfl (fun _ _ _ h => h) (Or.inr ⟨by rfl, rfl⟩) (by assumption) ?_
                    simp only [Act.put, List.setIfInBounds_toArray, List.set_cons_zero, List.set_cons_succ]
                    refine take_dst 9 115 (v := undef) rfl (by kernel_rfl) (by kernel_rfl) (by kernel_rfl) rfl (fun _ _ _ h => h) (Or.inr ⟨by rfl, rfl⟩) (by assumption) ?_
                    simp only [Act.put, List.setIfInBounds_toArray, List.set_cons_zero, List.set_cons_succ]
                    refine take_dst 10 116 (v := undef) rfl (by kernel_rfl) (by kernel_rfl) (by kernel_rfl) rfl (fun _ _ _ h => h) (Or.inr ⟨by rfl, rfl⟩) (by assumption) ?_
                    simp only [Act.put, List.setIfInBounds_toArray, List.set_cons_zero, List.set_cons_succ]
                    refine take_dst 11 117 (v := undef) rfl (by kernel_rfl) (by kernel_rfl) (by kernel_rfl) rfl (fun _ _ _ h => h) (Or.inr ⟨by rfl, rfl⟩) (by assumption) ?_
                    simp only [Act.put, List.setIfInBounds_toArray, List.set_cons_zero, List.set_cons_succ]
                    refine take_dst 12 118 (v := undef) rfl (by kernel_rfl) (by kernel_rfl) (by kernel_rfl) rfl (fun _ _ _ h => h) (Or.inr ⟨by rfl, rfl⟩) (by assumption) ?_
                    simp only [Act.put, List.setIfInBounds_toArray, List.set_cons_zero, List.set_cons_succ]
                    refine take_dst 13 119 (v := undef) rfl (by kernel_rfl) (by kernel_rfl) (by kernel_rfl) rfl (fun _ _ _ h => h) (Or.inr ⟨by rfl, rfl⟩) (by assumption) ?_
                    simp only [Act.put, List.setIfInBounds_toArray, List.set_cons_zero, List.set_cons_succ]
                    refine take_dst 14 120 (v := undef) rfl (by kernel_rfl) (by kernel_rfl) (by kernel_rfl) rfl (fun _ _ _ h => h) (Or.inr ⟨by rfl, rfl⟩) (by assumption) ?_
                    simp only [Act.put, List.setIfInBounds_toArray, List.set_cons_zero, List.set_cons_succ]
                    refine take_dst 15 121 (v := .bool false) rfl (by kernel_rfl) (by kernel_rfl) (by kernel_rfl) rfl (fun _ _ _ h => h) (Or.inl ⟨by rfl, ?_⟩) (by assumption) ?_
                    · intro wx hSw
                      first | (go_simp; done) | (go_simp; simp; done) | (go_simp; simp; omega) | (go_simp; omega) | (go_simp; exact decide_eq_false (by omega)) | (go_simp; exact decide_eq_true (by omega))
                    simp only [Act.put, List.setIfInBounds_toArray, List.set_cons_zero, List.set_cons_succ]
                    refine take_dst 16 122 (v := ?_) rfl (by kernel_rfl) (by kernel_rfl) (by kernel_rfl) rfl (fun _ _ _ h => h) (Or.inl ⟨by rfl, ?_⟩) (by assumption) ?_
                    rotate_left
                    · intro wx hSw
                      first | (go_simp; done) | (go_simp; with_reducible rfl)
                    simp only [Act.put, List.setIfInBounds_toArray, List.set_cons_zero, List.set_cons_succ]
                    refine take_dst 17 123 (v := undef) rfl (by kernel_rfl) (by kernel_rfl) (by kernel_rfl) rfl (fun _ _ _ h => h) (Or.inr ⟨by rfl, rfl⟩) (by assumption) ?_
                    simp only [Act.put, List.setIfInBounds_toArray, List.set_cons_zero, List.set_cons_succ]
                    refine take_dst 18 124 (v := undef) rfl (by kernel_rfl) (by kernel_rfl) (by kernel_rfl) rfl (fun _ _ _ h => h) (Or.inr ⟨by rfl, rfl⟩) (by assumption) ?_
                    simp only [Act.put, List.setIfInBounds_toArray, List.set_cons_zero, List.set_cons_succ]
                    refine take_dst 19 125 (v := undef) rfl (by kernel_rfl) (by kernel_rfl) (by kernel_rfl) rfl (fun _ _ _ h => h) (Or.inr ⟨by rfl, rfl⟩) (by assumption) ?_
                    simp only [Act.put, List.setIfInBounds_toArray, List.set_cons_zero, List.set_cons_succ]
                    refine take_dst 20 126 (v := undef) rfl (by kernel_rfl) (by kernel_rfl) (by kernel_rfl) rfl (fun _ _ _ h => h) (Or.inr ⟨by rfl, rfl⟩) (by assumption) ?_
                    simp only [Act.put, List.setIfInBounds_toArray, List.set_cons_zero, List.set_cons_succ]
                    refine take_dst 21 127 (v := undef) rfl (by kernel_rfl) (by kernel_rfl) (by kernel_rfl) rfl (fun _ _ _ h => h) (Or.inr ⟨by rfl, rfl⟩) (by assumption) ?_
                    simp only [Act.put, List.setIfInBounds_toArray, List.set_cons_zero, List.set_cons_succ]
                    refine take_dst 22 128 (v := undef) rfl (by kernel_rfl) (by kernel_rfl) (by kernel_rfl) rfl (fun _ _ _ h => h) (Or.inr ⟨by rfl, rfl⟩) (by assumption) ?_
                    simp only [Act.put, List.setIfInBounds_toArray, List.set_cons_zero, List.set_cons_succ]
                    refine take_dst 23 129 (v := .bool false) rfl (by kernel_rfl) (by kernel_rfl) (by kernel_rfl) rfl (fun _ _ _ h => h) (Or.inl ⟨by rfl, ?_⟩) (by assumption) ?_
                    · intro wx hSw
                      first | (go_simp; done) | (go_simp; simp; done) | (go_simp; simp; omega) | (go_simp; omega) | (go_simp; exact decide_eq_false (by omega)) | (go_simp; exact decide_eq_true (by omega))
                    simp only [Act.put, List.setIfInBounds_toArray, List.set_cons_zero, List.set_cons_succ]
                    refine wpAnyH_done (by kernel_rfl) ?_ _
                    clear hHeld k1 k2 x0 x1 v3
                    generalize Wb.drew = Wd at *
                    go_wp2
                    go_roundw
                    case rel => exact ⟨hh + 1, by omega, by go_num, by rw [Hs1.out], by rw [Hs2.out], HEd.out⟩
                    case measure => simp [intOf]; omega
                · have hhe : hh = S.heaps.toNat + 1 := by omega
                  have hsum : Ti.sumTo (fun h => S.charged h cc) hh = S.chg cc := by rw [hhe]; exact chgs_all hI.toInv0 cc
                  have hfr : B + S.fr cc hh = A + frC S (cc + 1) := by rw [hhe]; exact HB.out.symm
                  rw [hsum, hfr]
                  have Hch : Hid _ := charges_any wr fl foot S L HX5.out.hA cc (by omega)
                  have HEe : Hid (Ext none1 w2 wr) := HE4.out.trans hE5
                  generalize S.chg cc = U at *
                  obtain ⟨Fv, hFv⟩ : ∃ Fv, Fv = A + frC S (cc + 1) := ⟨_, rfl⟩
                  rw [← hFv]
                  have HFv : Hid (Value.int .i64 Fv = .int .i64 (A + frC S (cc + 1))) := by show _ = _; rw [hFv]
                  clear hFv
                  clear hE5 hhe hsum hfr HX5 u0 u3
                  go_wp2_with fail
                  refine Calls.mono Hch.out ?_
                  clear Hch
                  rintro e w' ⟨rfl, rfl⟩
                  go_wp2
                  go_roundw
                  case rel => exact ⟨cc + 1, by omega, by go_num, HFv.out, HEe.out⟩
                  case measure => simp [intOf]; omega
            · obtain rfl : cc = 3 := by omega
              have HM4 : Hid _ := Mid.keep face HM3.out hE4
              have u2 := (hE4.cell fl 2 hlf).trans f2
              rw [HA3.out]
              clear hE4
              go_wp2
              go_roundw
              case rel => exact ⟨k + 1, S, L, by omega, by go_num, HM4.out⟩
              case measure => simp [intOf]; omega
    · obtain rfl : k = N := by omega
      have HEr : Hid _ := hEr
      clear hm hEr HM
      go_wp2
      go_ret
      exact ⟨rfl, HEr.out⟩
end Go.Proofs.YtbagfepdmmfegaaDoor
