import Derived.Test.YtbagfepdmmfegaaDoorK31
set_option linter.unusedVariables false
set_option linter.unusedSimpArgs false
/- WALKED. -/
namespace Go.Proofs.YtbagfepdmmfegaaDoor
open Go.RowKit Go.Shelf
attribute [local go_sem] Oper.semAt_some

theorem results_walked (tmps : Array Value) (w : World) (g : Nat) (hp : tmps.getD 6 undef = .pointer (some ⟨g, 0, none⟩)) (hg : w.heap[g]? = some (.cells #[.bool true] 4 (0, 0))) :
    (results Tryd.f12 tmps).run Tryd.prog w = .ok (.bool true) w := by
  have hp' : tmps[6]?.getD undef = .pointer (some ⟨g, 0, none⟩) := by simpa using hp
  have hc := cell_of hg 0
  simp at hc
  simp [results, Tryd.results12, hp', go_sem, hc]

set_option maxRecDepth 100000 in
set_option maxHeartbeats 8000000 in
theorem walked_any (W : World) (hG : GlobAt W) (h n s : Int)
    (h0 : -9223372036854775808 ≤ h) (h1 : h ≤ 9223372036854775807) (n0 : -9223372036854775808 ≤ n) (n1 : n ≤ 9223372036854775807) (s0 : -9223372036854775808 ≤ s) (s1 : s ≤ 9223372036854775807)
    (sv : Value) (ops : List O3) (hs : S3At W sv ops) (hlen : ops.length ≤ 5864062014806) (hok : ∀ o ∈ ops, o.ok) (most : Int) (m0 : -9223372036854775808 ≤ most) (m1 : most ≤ 9223372036854775807) :
    Calls Tryd.prog 12 #[.agg #[.int .i64 h, .int .i64 n, .int .i64 s], sv, .int .i64 most] W fun e W' => e = .returned (.bool true) ∧ Ext none1 W W' := by
  obtain ⟨pa, cap, rfl, hcells⟩ := hs.shape
  obtain ⟨N, hN⟩ : ∃ N, ops.length = N := ⟨_, rfl⟩
  have HC : Hid _ := hcells
  have HO : Hid _ := hok
  have HN : Hid (ops.length = N) := hN
  rw [hN] at hlen ⊢
  clear hs hcells hok hN
  have hE0 : Ext none1 W ((W.alloc (.cells #[.int .i64 h, .int .i64 n, .int .i64 s] 26)).alloc (.cells #[.bool false] 4)) := ((Ext.refl _ _).alloc _).alloc _
  have hrb0 := (heap2 W (.cells #[.int .i64 h, .int .i64 n, .int .i64 s] 26) (.cells #[.bool false] 4)).2
  have Hop : Hid _ := Mid.opened face _ (hG.keep hE0 (fun x => x)) h n s h0 h1 n0 n1 s0 s1
  obtain ⟨W0, HW0⟩ : ∃ W0, Hid ((W.alloc (.cells #[.int .i64 h, .int .i64 n, .int .i64 s] 26)).alloc (.cells #[.bool false] 4) = W0) := ⟨_, rfl⟩
  rw [HW0.out] at hE0 hrb0
  have HE0 : Hid _ := hE0
  have hw0 : 0 < W0.heap.size := Nat.lt_of_lt_of_le (let ⟨_, h⟩ := hG; h.2) hE0.size
  have hrbl := lt_of_heap hrb0
  obtain ⟨rb, hrb⟩ : ∃ rb, rb = W.heap.size + 1 := ⟨_, rfl⟩
  have Hrb : Hid (rb = W.heap.size + 1) := hrb
  rw [← hrb] at hrb0 hrbl
  have Hrb0 : Hid _ := hrb0
  clear hE0 hG hrb0
  refine (callsIn_wide (n := 16)).1 (callsIn_of_wp_marks Tryd.func12 rfl trivial ?_ rfl)
  obtain ⟨QQ, hQQ⟩ : ∃ QQ : Act → World → Prop, QQ = fun a w => bodyPostM Fence.wide 16 Tryd.prog Tryd.f12 (fun e W' => e = .returned (.bool true) ∧ Ext none1 W W') .ret a w := ⟨_, rfl⟩
  refine wpIn_mono (Q := fun e a w => e = .ret ∧ QQ a w) (wpIn_wide.2 ?_) (fun e a w h => by obtain ⟨rfl, h⟩ := h; rw [hQQ] at h; exact h)
  have HQQ : Hid (∀ (tm : Array Value) (D : Nat) (U : World), tm.getD 6 undef = .pointer (some ⟨rb, 0, none⟩) → U.heap[D]? = some (.deferred (some [])) → rb < D → U.heap[rb]? = some (.cells #[.bool true] 4 (0, 0)) → Ext none1 W U → QQ { tmps := tm, defers := [{ target := .collected D, args := #[] }] } U) := fun tm D U htm hd hD hr hE => by
    rw [hQQ]
    exact leaves_mark hd (results_walked _ _ rb htm ((World.putObj_heap_other (by omega)).trans hr)) ⟨rfl, ext_shut hE (by omega)⟩
  clear hQQ
  simp only [Tryd.ntmps12, List.size_toArray, List.length_cons, List.length_nil, Nat.reduceAdd, Nat.reduceSub, Array.replicate_succ, Array.replicate_zero, List.push_toArray, List.append_toArray, List.nil_append, List.cons_append]
  go_wp2_with fail
  refine Calls.mono Hop.out ?_
  clear Hop
  rw [HW0.out]
  rw [← hrb]
  clear HW0 hrb
  rintro e W1 ⟨fl, rfl, hE1, hm⟩
  have HM : Hid _ := Mid.f face hm hw0 (.cells #[.pointer (some ⟨fl, 0, none⟩)] 28)
  have Hfb : Hid _ := heap_alloc_new W1 (.cells #[.pointer (some ⟨fl, 0, none⟩)] 28)
  have hfbl : rb < W1.heap.size := Nat.lt_of_lt_of_le hrbl hE1.size
  clear hm hE1
  go_wp2
  obtain ⟨fb, hfb⟩ : ∃ fb, fb = W1.heap.size := ⟨_, rfl⟩
  rw [← hfb] at HM Hfb hfbl ⊢
  clear hfb
  go_loopw [8, 9] (fun i _ wr => ∃ (k : Nat) (S : Ti.St) (L : List Hb), k ≤ N ∧ i = .int .i64 k ∧ MidF PrIs W0 wr fl S L fb ∧ wr.heap[fb]? = some (.cells #[.pointer (some ⟨fl, 0, none⟩)] 28 (0, 0)))
    (fun i _ _ => N - (intOf i).toNat)
  case atStart => exact ⟨0, _, _, Nat.zero_le _, rfl, HM.out, Hfb.out⟩
  case round =>
    obtain ⟨k, S0, L0, hk, rfl, hm, hfb⟩ := hrel
    have hEr0 : Ext none1 W0 wr := let ⟨_, _, e, _⟩ := hm; e
    have hEr : Ext none1 W wr := HE0.out.trans hEr0
    clear HM Hfb
    by_cases hlt : k < N
    · obtain ⟨o, ho⟩ : ∃ o, ops[k]? = some o := ⟨_, List.getElem?_eq_getElem (by rw [HN.out]; exact hlt)⟩
      have hook := HO.out o (List.mem_of_getElem? ho)
      obtain ⟨ad, rfl, hadl, q0, q1, q2⟩ := HC.out k o ho
      obtain ⟨foot, hnf, hfg, hstep⟩ := MidF.named face hm
      have hWs := HE0.out.size
      have hcw : ∀ (w' : World) j, Ext foot wr w' → w'.cell? (ad.add j) = W.cell? (ad.add j) := fun w' j hw => World.cell?_of_block ((hEr.trans' hw (fun k hk hh => by have := hfg k hh; omega)).block _ (by rw [add_block]; exact hadl) (fun x => x))
      have r0 : ∀ w', Ext foot wr w' → w'.cell? (ad.add (k * 3)) = some (.int .i64 o.k) := fun w' hw => (hcw w' _ hw).trans q0
      have r1 : ∀ w', Ext foot wr w' → w'.cell? ⟨(ad.add (k * 3)).block, (ad.add (k * 3)).off + 1, none⟩ = some (.int .i64 o.a) := fun w' hw => by rw [cell_add _ _ _ _ (by omega), hcw w' _ hw]; exact q1
      have r2 : ∀ w', Ext foot wr w' → w'.cell? ⟨(ad.add (k * 3)).block, (ad.add (k * 3)).off + 2, none⟩ = some (.int .i64 o.b) := fun w' hw => by rw [cell_add _ _ _ _ (by omega), hcw w' _ hw]; exact q2
      have hfl0 := cell_of hfb 0
      simp at hfl0
      have k1 : ∀ w', Ext foot wr w' → w'.cell? ⟨fb, 0, none⟩ = some (.pointer (some ⟨fl, 0, none⟩)) := fun w' hw => by rw [cell_of (hw.keep hfb hnf)]; rfl
      have hlt' : (k : Int) < (N : Int) := by omega
      have Hst : Hid (∀ w, Ext none1 wr w → Calls Tryd.prog 15 #[.pointer (some ⟨fl, 0, none⟩), .agg #[.int .i64 o.k, .int .i64 o.a, .int .i64 o.b]] w fun e V' => e = .returned (.bool true) ∧ Ext foot wr V' ∧ ∃ S' L', MidF PrIs W0 V' fl S' L' fb ∧ V'.heap[fb]? = some (.cells #[.pointer (some ⟨fl, 0, none⟩)] 28 (0, 0))) := fun w hw => by
        refine (hstep w o hook hw).mono ?_
        rintro e V' ⟨rfl, q, S', L', r⟩
        exact ⟨rfl, q, S', L', r, q.keep hfb hnf⟩
      clear hm hcw q0 q1 q2 hfl0 hfb hEr hEr0 hstep hfg hnf
      go_wp2_with fail
      go_region_held3 (fun w' => Ext foot wr w') (first | assumption | exact (Ext.refl _ _).drew)
        (first | (go_at_call 15; refine Calls.mono (Hst.out _ (Ext.refl _ _).drew) ?_; rintro e w' ⟨rfl, hxx, S, L, hm, hfb⟩))
      have HM2 : Hid _ := hm
      have Hfb2 : Hid _ := hfb
      clear hm hfb hxx Hst r0 r1 r2 k1
      go_wp2
      go_roundw
      case rel => exact ⟨k + 1, S, L, by omega, by go_num, HM2.out, Hfb2.out⟩
      case measure => simp [intOf]; omega
    · obtain rfl : k = N := by omega
      obtain ⟨foot, hA, _, hft, hnf, _, hfbg, _⟩ := hm
      have hokS := hA.ok
      have hI := hokS.inv
      have hA1 := hA.ffl
      have hfew := hA.few
      obtain ⟨fp, x, v, hX⟩ := hA.fx
      obtain ⟨pv, capv, rfl, hpv⟩ : ∃ pv capv, v = .slice pv L0.length capv ∧ (0 < L0.length → ∃ g, pv = some ⟨g, 0, none⟩) := by
        rcases hX.b3.2 with ⟨rfl, e⟩ | ⟨g, cap, cur, rfl, _⟩
        · exact ⟨none, 0, by rw [e], fun h => by omega⟩
        · exact ⟨_, cap, rfl, fun _ => ⟨g, rfl⟩⟩
      have f0 := cell_of hX.b1 0
      simp at f0
      have hfl0 := cell_of hfb 0
      simp at hfl0
      obtain ⟨m, bf, bz, _, ht, _⟩ := hX.b2
      have Hlv : Hid _ := live_any wr x m bf bz S0 ht
      have Ht : Hid _ := ht
      have Hb1 : Hid _ := hX.b1
      have Hfb : Hid _ := hfb
      have HEr : Hid _ := hEr
      have HEr0 : Hid _ := hEr0
      have Hrow : Hid (∀ g, pv = some ⟨g, 0, none⟩ → ∃ cur, wr.heap[g]? = some (.cells cur 40 (0, 0)) ∧ ∀ (i : Nat) (z : Hb), L0[i]? = some z → cur[i * 3]? = some (.int .i64 z.b.at_) ∧ cur[i * 3 + 1]? = some (.int .i64 z.b.size)) := by
        rintro g rfl
        obtain ⟨hel, ⟨e, _⟩ | ⟨g', cap, cur, e, hgb, hgh, hcap, hmx, hsz, htk⟩⟩ := hX.b3
        · cases e
        · obtain ⟨rfl, _⟩ : g = g' ∧ True := by simp at e; exact ⟨e.1, trivial⟩
          refine ⟨cur, hgh, fun i z hz => ?_⟩
          have hge := encB_get L0 i z hz
          have hc : ∀ j u, (encB L0)[j]? = some u → cur[j]? = some u := fun j u hu => by
            rw [← htk, List.getElem?_take] at hu
            split at hu
            · simpa using hu
            · cases hu
          exact ⟨hc _ _ hge.1, hc _ _ hge.2.1⟩
      have hnil := fun_not_nil
      have hpk := pickI_bd most 200 (by omega)
      have Hpk : Hid (∀ w, Calls Tryd.prog 20 #[.int .i64 most, .int .i64 200] w fun e w' => e = .returned (.int .i64 (pickI most 200)) ∧ w = w') := fun w => pickK_any most 200 w m0 m1 (by omega) (by omega)
      obtain ⟨pk, hpke⟩ : ∃ pk, pk = pickI most 200 := ⟨_, rfl⟩
      rw [← hpke] at hpk Hpk
      have hwp : IntKind.i64.wrap (1 + pk) = 1 + pk := by rw [IntKind.wrap_i64]; omega
      obtain ⟨nn, hnn⟩ : ∃ nn, nn = 1 + pk := ⟨_, rfl⟩
      have hnb : 1 ≤ nn ∧ nn ≤ 200 := by omega
      have Hnn : Hid (nn = 1 + pk) := hnn
      clear hnn
      clear hX hA ht hfb hEr hEr0 hpke
      go_wp2_with fail
      refine Calls.mono Hlv.out ?_
      clear Hlv
      rintro e w' ⟨rfl, rfl⟩
      go_wp2_with fail
      refine Calls.mono (Hpk.out _) ?_
      clear Hpk
      rintro e w' ⟨rfl, rfl⟩
      have hE7 : Ext none1 wr ((((wr.alloc (.cells #[.pointer (some ⟨m, 0, none⟩)] 69)).alloc (.cells #[.int .i64 (1 + pk)] 3)).alloc (.cells #[.int .i64 (-1)] 3)).alloc (.cells #[.int .i64 0] 3)) := ((((Ext.refl _ _).alloc _).alloc _).alloc _).alloc _
      have hbb := heapQ wr (.cells #[.pointer (some ⟨m, 0, none⟩)] 69) (.cells #[.int .i64 (1 + pk)] 3) (.cells #[.int .i64 (-1)] 3) (.cells #[.int .i64 0] 3)
      go_wp2_with fail
      rw [← Hnn.out] at hE7 hbb ⊢
      clear hwp hpk Hnn
      clear hnil f0 hfl0
      generalize ((((wr.alloc (.cells #[.pointer (some ⟨m, 0, none⟩)] 69)).alloc (.cells #[.int .i64 nn] 3)).alloc (.cells #[.int .i64 (-1)] 3)).alloc (.cells #[.int .i64 0] 3)) = W7 at *
      obtain ⟨t0, t1, t2, t3⟩ := hbb
      have hs7 := lt_of_heap t3
      have hP7 := Ht.out.pr.keep0 hE7
      have hb7 := hE7.keep Hb1.out (fun x => x)
      have hf7 := hE7.keep Hfb.out (fun x => x)
      have hE07 := HEr.out.trans hE7
      have hr7 := (HEr0.out.trans hE7).keep Hrb0.out (fun x => x)
      have hfll := lt_of_heap Hb1.out
      have hfbl2 := lt_of_heap Hfb.out
      have Hrow7 : Hid (∀ g, pv = some ⟨g, 0, none⟩ → ∃ cur, g < wr.heap.size ∧ W7.heap[g]? = some (.cells cur 40 (0, 0)) ∧ ∀ (i : Nat) (z : Hb), L0[i]? = some z → cur[i * 3]? = some (.int .i64 z.b.at_) ∧ cur[i * 3 + 1]? = some (.int .i64 z.b.size)) := fun g hg => by
        obtain ⟨cur, a, b⟩ := Hrow.out g hg
        exact ⟨cur, lt_of_heap a, hE7.keep a (fun x => x), b⟩
      clear Hrow
      obtain ⟨B, hB⟩ : ∃ B, B = wr.heap.size := ⟨_, rfl⟩
      rw [← hB] at t0 t1 t2 t3 hs7 hfll hfbl2 Hrow7 ⊢
      clear hB
      refine (wpIn_wide (n := 16)).1 ?_
      refine range_G (fun (y : Int × Int) t => (((t.setIfInBounds 47 (.int .i64 y.1)).setIfInBounds 48 (.int .i64 y.2)).setIfInBounds 14 (.int .i64 y.1)).setIfInBounds 15 (.int .i64 y.2)) (hro := rfl) (by omega) (gf := 61) (lb := #[.pointer (some ⟨B, 0, none⟩)]) rfl trivial (enters_of Tryd.func61 (by kernel_rfl) rfl)
        (live_J 15 (by omega) (two (B + 2) (B + 3)) m bf bz B S0 hI.toInv0 W7 (fun k h => by rcases h with h | h <;> (have h : k = _ := h; omega)) t0 hP7)
        (fun a b => a.trans b) (fun W l o _ => stay_put _ W l o) (fun _ => rfl)
        (fun pre U => U.heap[B + 2]? = some (.cells #[.int .i64 (lastOf pre)] 3 (0, 0)) ∧ U.heap[B + 3]? = some (.cells #[.int .i64 (pre.length : Int)] 3 (0, 0)) ∧ Ext (two (B + 2) (B + 3)) W7 U ∧ (pre.length : Int) < nn)
        (fun c pre U => U.heap[B + 3]? = some (.cells #[.int .i64 (pre.length : Int)] 3 (0, 0)) ∧ Ext (two (B + 2) (B + 3)) W7 U ∧ c = .exit 2 ∧ (pre.length : Int) = nn ∧ pre.length ≤ S0.blocks.length)
        (OwnFrom.and (ownFrom_block (by omega) _) (OwnFrom.and (ownFrom_block (by omega) _) (OwnFrom.and (ownExt (Nat.le_refl _)) ownPure)))
        (fun c => OwnFrom.and (ownFrom_block (by omega) _) (OwnFrom.and (ownExt (Nat.le_refl _)) ownPure)) (fun _ _ _ => trivial) ⟨t2, t3, Ext.refl _ _, by simp; omega⟩ ?assign ?body ?done ?stop
      case assign =>
        intro l y U K hK
        gi_wp2
        simpa using hK
      case body =>
        rintro l pre y U hll ⟨g2, g3, hE, hpn⟩ hok
        obtain ⟨hyb, hlast, hy0, hlt3, hl1, hy1⟩ := lastOf_lt hI.toInv0 hok
        have hall := knownTo_all hokS y hyb
        have hfew2 := blocks_few S0 hI.toInv0
        have hfU := hE.keep hf7 (fun e => by rcases e with e | e <;> (have e : fb = _ := e; omega))
        have hbU := hE.keep hb7 (fun e => by rcases e with e | e <;> (have e : fl = _ := e; omega))
        have hnU := hE.keep t1 (fun e => by rcases e with e | e <;> (have e : B + 1 = _ := e; omega))
        have HrU : Hid (∀ g, pv = some ⟨g, 0, none⟩ → ∀ (i : Nat) (z : Hb), L0[i]? = some z → U.cell? ⟨g, i * 3, none⟩ = some (.int .i64 z.b.at_) ∧ U.cell? ⟨g, i * 3 + 1, none⟩ = some (.int .i64 z.b.size)) := fun g hg i z hz => by
          obtain ⟨cur, a, b, c⟩ := Hrow7.out g hg
          have := hE.keep b (fun e => by rcases e with e | e <;> (have e : g = _ := e; omega))
          rw [cell_of this, cell_of this]
          exact c i z hz
        have y0 := cell_of hfU 0
        have y4 := cell_of hbU 4
        have yn := cell_of hnU 0
        have yl := cell_of g2 0
        have ys := cell_of g3 0
        have zl := frozen_of g2 0
        simp at y0 y4 yn yl ys
        have Hg2 : Hid _ := g2
        have Hg3 : Hid _ := g3
        have HE : Hid _ := hE
        have Hnx : Hid ((pre ++ [y]).length ≤ S0.blocks.length) := by show _ ≤ _; simp; omega
        clear hok hE g2 g3 hfU hbU hnU Hrow7
        simp only [List.setIfInBounds_toArray, List.set_cons_zero, List.set_cons_succ]
        gi_wp2_with fail
        gi_loopw [16, 17] (fun t16 t17 wx => ∃ i : Nat, i ≤ L0.length ∧ t17 = .int .i64 i ∧ t16 = .bool (knownTo L0 y i) ∧ wx = U) (fun _ t17 _ => L0.length - (intOf t17).toNat)
        case atStart => exact ⟨0, Nat.zero_le _, rfl, by simp [knownTo], rfl⟩
        case round =>
          obtain ⟨i, hil, rfl, rfl, hwr⟩ := hrel
          rw [hwr]
          clear hwr
          by_cases hilt : i < L0.length
          · obtain ⟨g, rfl⟩ := hpv (by omega)
            obtain ⟨z, hz⟩ : ∃ z, L0[i]? = some z := ⟨_, List.getElem?_eq_getElem hilt⟩
            obtain ⟨c0, c1⟩ := HrU.out g rfl i z hz
            have hil' : (i : Int) < (L0.length : Int) := by omega
            have hsu := knownTo_succ L0 y i z hz
            cases hkn : knownTo L0 y i with
            | true =>
              have Hsu : Hid (knownTo L0 y (i + 1) = true) := by show _ = _; rw [hsu, hkn]; rfl
              clear hsu hkn
              gi_wp2
              go_roundw
              case rel => exact ⟨i + 1, by omega, by go_num, by rw [Hsu.out] <;> simp [*], (by first | rfl | trivial)⟩
              case measure => simp [intOf]; omega
            | false =>
              rw [hkn, Bool.false_or] at hsu
              by_cases ha : z.b.at_ = y.1
              · by_cases hb : z.b.size = y.2
                · have Hsu : Hid (knownTo L0 y (i + 1) = true) := by show _ = _; rw [hsu]; simp [ha, hb]
                  clear hsu hkn
                  gi_wp2
                  go_roundw
                  case rel => exact ⟨i + 1, by omega, by go_num, by rw [Hsu.out] <;> simp [*], (by first | rfl | trivial)⟩
                  case measure => simp [intOf]; omega
                · have Hsu : Hid (knownTo L0 y (i + 1) = false) := by show _ = _; rw [hsu]; simp [hb]
                  clear hsu hkn
                  gi_wp2
                  go_roundw
                  case rel => exact ⟨i + 1, by omega, by go_num, by rw [Hsu.out] <;> simp [*], (by first | rfl | trivial)⟩
                  case measure => simp [intOf]; omega
              · have Hsu : Hid (knownTo L0 y (i + 1) = false) := by show _ = _; rw [hsu]; simp [ha]
                clear hsu hkn
                gi_wp2
                go_roundw
                case rel => exact ⟨i + 1, by omega, by go_num, by rw [Hsu.out] <;> simp [*], (by first | rfl | trivial)⟩
                case measure => simp [intOf]; omega
          · obtain rfl : i = L0.length := by omega
            rw [hall]
            have hnle : ¬ y.1 ≤ lastOf pre := by omega
            have v2 := heap_set Hg2.out 0 (.int .i64 y.1)
            have v3 : (U.setCell ⟨B + 2, 0, none⟩ (.int .i64 y.1)).heap[B + 3]? = some (.cells #[.int .i64 (pre.length : Int)] 3 (0, 0)) := (heap_set_ne (by omega) _ _).trans Hg3.out
            have hE1 : Ext (two (B + 2) (B + 3)) U (U.setCell ⟨B + 2, 0, none⟩ (.int .i64 y.1)) := (Ext.refl _ U).setCell ⟨B + 2, 0, none⟩ (.inl (.inl rfl)) _
            have hK1 : KeepsFrom W7.heap.size U (U.setCell ⟨B + 2, 0, none⟩ (.int .i64 y.1)) := (KeepsOthers.setCell U ⟨B + 2, 0, none⟩ (.int .i64 y.1)).from _
            have hS1 : Stay (but (two (B + 2) (B + 3)) l) U (U.setCell ⟨B + 2, 0, none⟩ (.int .i64 y.1)) := (Stay.refl _ _).setCell ⟨B + 2, 0, none⟩ (fun hh => hh.1 (.inl rfl)) _
            have vn : (U.setCell ⟨B + 2, 0, none⟩ (.int .i64 y.1)).cell? ⟨B + 1, 0, none⟩ = some (.int .i64 nn) := by rw [← yn]; exact World.cell?_of_block (heap_set_ne (b' := B + 1) (by omega) _ _)
            have vs := cell_of v3 0
            have vz := frozen_of v3 0
            simp at vs
            have hwl : IntKind.i64.wrap ((pre.length : Int) + 1) = (pre.length : Int) + 1 := by rw [IntKind.wrap_i64]; omega
            have v4 := heap_set v3 0 (.int .i64 ((pre.length : Int) + 1))
            have v5 : ((U.setCell ⟨B + 2, 0, none⟩ (.int .i64 y.1)).setCell ⟨B + 3, 0, none⟩ (.int .i64 ((pre.length : Int) + 1))).heap[B + 2]? = some (.cells #[.int .i64 y.1] 3 (0, 0)) := (heap_set_ne (by omega) _ _).trans v2
            have v6 : ((U.setCell ⟨B + 2, 0, none⟩ (.int .i64 y.1)).setCell ⟨B + 3, 0, none⟩ (.int .i64 ((pre.length : Int) + 1))).cell? ⟨B + 1, 0, none⟩ = some (.int .i64 nn) := by rw [← vn]; exact World.cell?_of_block (heap_set_ne (b' := B + 1) (by omega) _ _)
            have v7 := cell_of v4 0
            simp at v7
            have Hfin : Hid (KeepsFrom W7.heap.size U ((U.setCell ⟨B + 2, 0, none⟩ (.int .i64 y.1)).setCell ⟨B + 3, 0, none⟩ (.int .i64 ((pre.length : Int) + 1))) ∧ Stay (but (two (B + 2) (B + 3)) l) U ((U.setCell ⟨B + 2, 0, none⟩ (.int .i64 y.1)).setCell ⟨B + 3, 0, none⟩ (.int .i64 ((pre.length : Int) + 1))) ∧ ((U.setCell ⟨B + 2, 0, none⟩ (.int .i64 y.1)).setCell ⟨B + 3, 0, none⟩ (.int .i64 ((pre.length : Int) + 1))).heap[B + 2]? = some (.cells #[.int .i64 (lastOf (pre ++ [y]))] 3 (0, 0)) ∧ ((U.setCell ⟨B + 2, 0, none⟩ (.int .i64 y.1)).setCell ⟨B + 3, 0, none⟩ (.int .i64 ((pre.length : Int) + 1))).heap[B + 3]? = some (.cells #[.int .i64 ((pre ++ [y]).length : Int)] 3 (0, 0)) ∧ Ext (two (B + 2) (B + 3)) W7 ((U.setCell ⟨B + 2, 0, none⟩ (.int .i64 y.1)).setCell ⟨B + 3, 0, none⟩ (.int .i64 ((pre.length : Int) + 1)))) :=
              ⟨hK1.trans ((KeepsOthers.setCell _ _ _).from _), hS1.setCell ⟨B + 3, 0, none⟩ (fun hh => hh.1 (.inr rfl)) _, by rw [lastOf_snoc]; exact v5, by rw [v4]; simp, (HE.out.trans hE1).setCell ⟨B + 3, 0, none⟩ (.inl (.inr rfl)) _⟩
            clear hK1 hS1 hE1 v2 v3 v4 v5 Hg2 Hg3
            by_cases hend : nn = (pre.length : Int) + 1
            · subst hend
              gi_wp2
              exact ⟨Hfin.out.1, Hfin.out.2.2.2.1, Hfin.out.2.2.2.2, rfl, (by first | (simp; done) | (simp; omega)), Hnx.out⟩
            · have hend' : ¬ (pre.length : Int) + 1 = nn := fun e => hend e.symm
              gi_wp2
              exact ⟨Hfin.out.1, Hfin.out.2.1, Hfin.out.2.2.1, Hfin.out.2.2.2.1, Hfin.out.2.2.2.2, by simp; omega⟩
      case done =>
        rintro D ys U hD rfl ⟨g2, g3, hE, hpn⟩ hKd
        rw [blocks_len hokS] at g3
        have hfU := hE.keep hf7 (fun e => by rcases e with e | e <;> (have e : fb = _ := e; omega))
        have hbU := hE.keep hb7 (fun e => by rcases e with e | e <;> (have e : fl = _ := e; omega))
        have hnU := hE.keep t1 (fun e => by rcases e with e | e <;> (have e : B + 1 = _ := e; omega))
        have hrU := hE.keep hr7 (fun e => by rcases e with e | e <;> (have e : rb = _ := e; omega))
        have y0 := cell_of hfU 0
        have y4 := cell_of hbU 4
        have yn := cell_of hnU 0
        have ys := cell_of g3 0
        have y5 := cell_of hrU 0
        have y6 := frozen_of hrU 0
        simp at y0 y4 yn ys y5
        have l0 := lt_of_heap hfU
        have l1 := lt_of_heap hbU
        have l2 := lt_of_heap hnU
        have l3 := lt_of_heap g3
        have hne : fl ≠ rb := fun e => by have := hft fl hA1; omega
        have hcc : ∀ (w' : World) (b o : Nat), Ext (one rb) U w' → b < U.heap.size → b ≠ rb → w'.cell? ⟨b, o, none⟩ = U.cell? ⟨b, o, none⟩ := fun w' b o hE hl hn => by
          unfold World.cell?
          simp only [hE.block b hl hn]
        have k0 : ∀ (w' : World) (o : Nat), Ext (one rb) U w' → w'.cell? ⟨fb, o, none⟩ = U.cell? ⟨fb, o, none⟩ := fun w' o h => hcc w' _ o h l0 (by omega)
        have k4 : ∀ (w' : World) (o : Nat), Ext (one rb) U w' → w'.cell? ⟨fl, o, none⟩ = U.cell? ⟨fl, o, none⟩ := fun w' o h => hcc w' _ o h l1 hne
        have kn : ∀ (w' : World) (o : Nat), Ext (one rb) U w' → w'.cell? ⟨B + 1, o, none⟩ = U.cell? ⟨B + 1, o, none⟩ := fun w' o h => hcc w' _ o h l2 (by omega)
        have ks : ∀ (w' : World) (o : Nat), Ext (one rb) U w' → w'.cell? ⟨B + 3, o, none⟩ = U.cell? ⟨B + 3, o, none⟩ := fun w' o h => hcc w' _ o h l3 (by omega)
        have hDr : rb < D := by omega
        have Hd : Hid (((U.setCell ⟨rb, 0, none⟩ (.bool true)).drew).heap[D]? = some (.deferred (some []))) := (heap_set_ne (w := U) (by omega) _ _).trans hKd
        have Hr : Hid (((U.setCell ⟨rb, 0, none⟩ (.bool true)).drew).heap[rb]? = some (.cells #[.bool true] 4 (0, 0))) := heap_set (w := U) hrU 0 (.bool true)
        have HE : Hid (Ext none1 W ((U.setCell ⟨rb, 0, none⟩ (.bool true)).drew)) := by
          refine Ext.drew ?_
          refine Ext.trans' (hE07.trans' hE (fun j hj e => by have := hE07.size; have := Hrb.out; rcases e with e | e <;> (have e : j = _ := e; omega))) ((Ext.refl (one rb) U).setCell ⟨rb, 0, none⟩ (.inl rfl) _) (fun j hj e => by have e : j = rb := e; have := Hrb.out; omega)
        clear hcc hfU hbU hnU hrU hE g3 hKd
        go_wp2_with fail
        refine wp_region_calm (fun w' => Ext (one rb) U w') (by kernel_rfl) (Ext.refl _ _).drew (fun hHeld => ?_)
        refine take_dst 0 96 (v := ?_) rfl (by kernel_rfl) (by kernel_rfl) (by kernel_rfl) rfl (fun c _ _ h => absurd rfl (h.1 c)) (Or.inl ⟨by rfl, ?_⟩) (by assumption) ?_
        rotate_left
        · intro wx hSw
          first | (go_simp; done) | (go_simp; with_reducible rfl)
        simp only [Act.put, List.setIfInBounds_toArray, List.set_cons_zero, List.set_cons_succ]
        refine take_dst 1 97 (v := ?_) rfl (by kernel_rfl) (by kernel_rfl) (by kernel_rfl) rfl (fun c _ _ h => absurd rfl (h.1 c)) (Or.inl ⟨by rfl, ?_⟩) (by assumption) ?_
        rotate_left
        · intro wx hSw
          first | (go_simp; done) | (go_simp; with_reducible rfl)
        simp only [Act.put, List.setIfInBounds_toArray, List.set_cons_zero, List.set_cons_succ]
        refine take_dst 2 98 (v := ?_) rfl (by kernel_rfl) (by kernel_rfl) (by kernel_rfl) rfl (fun c _ _ h => absurd rfl (h.1 c)) (Or.inl ⟨by rfl, ?_⟩) (by assumption) ?_
        rotate_left
        · intro wx hSw
          first | (go_simp; done) | (go_simp; with_reducible rfl)
        simp only [Act.put, List.setIfInBounds_toArray, List.set_cons_zero, List.set_cons_succ]
        refine take_dst 3 99 (v := ?_) rfl (by kernel_rfl) (by kernel_rfl) (by kernel_rfl) rfl (fun c _ _ h => absurd rfl (h.1 c)) (Or.inl ⟨by rfl, ?_⟩) (by assumption) ?_
        rotate_left
        · intro wx hSw
          first | (go_simp; done) | (go_simp; with_reducible rfl)
        simp only [Act.put, List.setIfInBounds_toArray, List.set_cons_zero, List.set_cons_succ]
        refine take_dst 4 100 (v := ?_) rfl (by kernel_rfl) (by kernel_rfl) (by kernel_rfl) rfl (fun c _ _ h => absurd rfl (h.1 c)) (Or.inl ⟨by rfl, ?_⟩) (by assumption) ?_
        rotate_left
        · intro wx hSw
          first | (go_simp; done) | (go_simp; with_reducible rfl)
        simp only [Act.put, List.setIfInBounds_toArray, List.set_cons_zero, List.set_cons_succ]
        refine take_dst 5 101 (v := ?_) rfl (by kernel_rfl) (by kernel_rfl) (by kernel_rfl) rfl (fun c _ _ h => absurd rfl (h.1 c)) (Or.inl ⟨by rfl, ?_⟩) (by assumption) ?_
        rotate_left
        · intro wx hSw
          first | (go_simp; done) | (go_simp; with_reducible rfl)
        simp only [Act.put, List.setIfInBounds_toArray, List.set_cons_zero, List.set_cons_succ]
        refine take_dst 6 102 (v := .bool true) rfl (by kernel_rfl) (by kernel_rfl) (by kernel_rfl) rfl (fun c _ _ h => absurd rfl (h.1 c)) (Or.inl ⟨by rfl, ?_⟩) (by assumption) ?_
        · intro wx hSw
          first | (go_simp; done) | (go_simp; simp; done) | (go_simp; simp; omega) | (go_simp; omega) | (go_simp; exact decide_eq_false (by omega)) | (go_simp; exact decide_eq_true (by omega))
        simp only [Act.put, List.setIfInBounds_toArray, List.set_cons_zero, List.set_cons_succ]
        refine take_dst 7 103 (v := ?_) rfl (by kernel_rfl) (by kernel_rfl) (by kernel_rfl) rfl (fun c _ _ h => absurd rfl (h.1 c)) (Or.inl ⟨by rfl, ?_⟩) (by assumption) ?_
        rotate_left
        · intro wx hSw
          first | (go_simp; done) | (go_simp; with_reducible rfl)
        simp only [Act.put, List.setIfInBounds_toArray, List.set_cons_zero, List.set_cons_succ]
        refine take_dst 8 104 (v := undef) rfl (by kernel_rfl) (by kernel_rfl) (by kernel_rfl) rfl (fun c _ _ h => absurd rfl (h.1 c)) (Or.inr ⟨by rfl, rfl⟩) (by assumption) ?_
        simp only [Act.put, List.setIfInBounds_toArray, List.set_cons_zero, List.set_cons_succ]
        refine take_dst 9 105 (v := undef) rfl (by kernel_rfl) (by kernel_rfl) (by kernel_rfl) rfl (fun c _ _ h => absurd rfl (h.1 c)) (Or.inr ⟨by rfl, rfl⟩) (by assumption) ?_
        simp only [Act.put, List.setIfInBounds_toArray, List.set_cons_zero, List.set_cons_succ]
        refine take_dst 10 106 (v := undef) rfl (by kernel_rfl) (by kernel_rfl) (by kernel_rfl) rfl (fun c _ _ h => absurd rfl (h.1 c)) (Or.inr ⟨by rfl, rfl⟩) (by assumption) ?_
        simp only [Act.put, List.setIfInBounds_toArray, List.set_cons_zero, List.set_cons_succ]
        refine take_dst 11 107 (v := undef) rfl (by kernel_rfl) (by kernel_rfl) (by kernel_rfl) rfl (fun c _ _ h => absurd rfl (h.1 c)) (Or.inr ⟨by rfl, rfl⟩) (by assumption) ?_
        simp only [Act.put, List.setIfInBounds_toArray, List.set_cons_zero, List.set_cons_succ]
        refine take_dst 12 108 (v := undef) rfl (by kernel_rfl) (by kernel_rfl) (by kernel_rfl) rfl (fun c _ _ h => absurd rfl (h.1 c)) (Or.inr ⟨by rfl, rfl⟩) (by assumption) ?_
        simp only [Act.put, List.setIfInBounds_toArray, List.set_cons_zero, List.set_cons_succ]
        refine take_dst 13 109 (v := undef) rfl (by kernel_rfl) (by kernel_rfl) (by kernel_rfl) rfl (fun c _ _ h => absurd rfl (h.1 c)) (Or.inr ⟨by rfl, rfl⟩) (by assumption) ?_
        simp only [Act.put, List.setIfInBounds_toArray, List.set_cons_zero, List.set_cons_succ]
        refine take_dst 14 110 (v := undef) rfl (by kernel_rfl) (by kernel_rfl) (by kernel_rfl) rfl (fun c _ _ h => absurd rfl (h.1 c)) (Or.inr ⟨by rfl, rfl⟩) (by assumption) ?_
        simp only [Act.put, List.setIfInBounds_toArray, List.set_cons_zero, List.set_cons_succ]
        refine take_dst 15 111 (v := undef) rfl (by kernel_rfl) (by kernel_rfl) (by kernel_rfl) rfl (fun c _ _ h => absurd rfl (h.1 c)) (Or.inr ⟨by rfl, rfl⟩) (by assumption) ?_
        simp only [Act.put, List.setIfInBounds_toArray, List.set_cons_zero, List.set_cons_succ]
        refine take_dst 16 112 (v := undef) rfl (by kernel_rfl) (by kernel_rfl) (by kernel_rfl) rfl (fun c _ _ h => absurd rfl (h.1 c)) (Or.inr ⟨by rfl, rfl⟩) (by assumption) ?_
        simp only [Act.put, List.setIfInBounds_toArray, List.set_cons_zero, List.set_cons_succ]
        refine take_dst 17 113 (v := undef) rfl (by kernel_rfl) (by kernel_rfl) (by kernel_rfl) rfl (fun c _ _ h => absurd rfl (h.1 c)) (Or.inr ⟨by rfl, rfl⟩) (by assumption) ?_
        simp only [Act.put, List.setIfInBounds_toArray, List.set_cons_zero, List.set_cons_succ]
        refine take_dst 18 114 (v := undef) rfl (by kernel_rfl) (by kernel_rfl) (by kernel_rfl) rfl (fun c _ _ h => absurd rfl (h.1 c)) (Or.inr ⟨by rfl, rfl⟩) (by assumption) ?_
        simp only [Act.put, List.setIfInBounds_toArray, List.set_cons_zero, List.set_cons_succ]
        refine take_dst 19 115 (v := undef) rfl (by kernel_rfl) (by kernel_rfl) (by kernel_rfl) rfl (fun c _ _ h => absurd rfl (h.1 c)) (Or.inr ⟨by rfl, rfl⟩) (by assumption) ?_
        simp only [Act.put, List.setIfInBounds_toArray, List.set_cons_zero, List.set_cons_succ]
        refine take_dst 20 116 (v := .bool true) rfl (by kernel_rfl) (by kernel_rfl) (by kernel_rfl) rfl (fun c _ _ h => absurd rfl (h.1 c)) (Or.inl ⟨by rfl, ?_⟩) (by assumption) ?_
        · intro wx hSw
          first | (go_simp; done) | (go_simp; simp; done) | (go_simp; simp; omega) | (go_simp; omega) | (go_simp; exact decide_eq_false (by omega)) | (go_simp; exact decide_eq_true (by omega))
        simp only [Act.put, List.setIfInBounds_toArray, List.set_cons_zero, List.set_cons_succ]
        refine wpAnyH_ready (rs := [21]) (by kernel_rfl) (by simp) ?_
        refine AllReadyH.cons (o := { dst := none, op := Op.store 4 (Operand.tmp 6) (Operand.tmp 116), type := 0, pos := "keeps.go:390", after := #[{ on := 20, ground := Ground.data }, { on := 11, ground := Ground.chain }, { on := 0, ground := Ground.phase }, { on := 1, ground := Ground.phase }, { on := 2, ground := Ground.phase }, { on := 3, ground := Ground.phase }, { on := 4, ground := Ground.phase }, { on := 5, ground := Ground.phase }, { on := 6, ground := Ground.phase }, { on := 7, ground := Ground.phase }, { on := 8, ground := Ground.phase }, { on := 9, ground := Ground.phase }, { on := 10, ground := Ground.phase }, { on := 11, ground := Ground.phase }, { on := 12, ground := Ground.phase }, { on := 13, ground := Ground.phase }, { on := 14, ground := Ground.phase }, { on := 15, ground := Ground.phase }, { on := 16, ground := Ground.phase }, { on := 17, ground := Ground.phase }, { on := 18, ground := Ground.phase }, { on := 19, ground := Ground.phase }, { on := 20, ground := Ground.phase }], guard := none }) rfl (fun K hK => ?_) ?_
        · go_simp
          refine hK.out _ _ (hHeld.setCell ⟨rb, 0, none⟩ (.inl rfl) _) (fun hHeld => ?_)
          clear hK K
          try simp only [Act.put, List.setIfInBounds_toArray, List.set_cons_zero, List.set_cons_succ]
          refine wpAnyH_done (by kernel_rfl) ?_ _
          refine ⟨fun c h => (by cases h), ?_⟩
          clear hHeld k0 k4 ks kn y0 y4 ys yn y5 y6
          go_wp2
          exact HQQ.out _ D _ rfl Hd.out (by omega) Hr.out HE.out
        exact AllReadyH.nil
      case stop =>
        rintro D c pre U hD _ ⟨g3, hE, rfl, hpn, hpl⟩ hKd
        rw [blocks_len hokS] at hpl
        refine wpIn_wide.2 ?_
        by_cases hle : pre.length = L0.length
        · rw [hle] at g3
          have hfU := hE.keep hf7 (fun e => by rcases e with e | e <;> (have e : fb = _ := e; omega))
          have hbU := hE.keep hb7 (fun e => by rcases e with e | e <;> (have e : fl = _ := e; omega))
          have hnU := hE.keep t1 (fun e => by rcases e with e | e <;> (have e : B + 1 = _ := e; omega))
          have hrU := hE.keep hr7 (fun e => by rcases e with e | e <;> (have e : rb = _ := e; omega))
          have y0 := cell_of hfU 0
          have y4 := cell_of hbU 4
          have yn := cell_of hnU 0
          have ys := cell_of g3 0
          have y5 := cell_of hrU 0
          have y6 := frozen_of hrU 0
          simp at y0 y4 yn ys y5
          have l0 := lt_of_heap hfU
          have l1 := lt_of_heap hbU
          have l2 := lt_of_heap hnU
          have l3 := lt_of_heap g3
          have hne : fl ≠ rb := fun e => by have := hft fl hA1; omega
          have hcc : ∀ (w' : World) (b o : Nat), Ext (one rb) U w' → b < U.heap.size → b ≠ rb → w'.cell? ⟨b, o, none⟩ = U.cell? ⟨b, o, none⟩ := fun w' b o hE hl hn => by
            unfold World.cell?
            simp only [hE.block b hl hn]
          have k0 : ∀ (w' : World) (o : Nat), Ext (one rb) U w' → w'.cell? ⟨fb, o, none⟩ = U.cell? ⟨fb, o, none⟩ := fun w' o h => hcc w' _ o h l0 (by omega)
          have k4 : ∀ (w' : World) (o : Nat), Ext (one rb) U w' → w'.cell? ⟨fl, o, none⟩ = U.cell? ⟨fl, o, none⟩ := fun w' o h => hcc w' _ o h l1 hne
          have kn : ∀ (w' : World) (o : Nat), Ext (one rb) U w' → w'.cell? ⟨B + 1, o, none⟩ = U.cell? ⟨B + 1, o, none⟩ := fun w' o h => hcc w' _ o h l2 (by omega)
          have ks : ∀ (w' : World) (o : Nat), Ext (one rb) U w' → w'.cell? ⟨B + 3, o, none⟩ = U.cell? ⟨B + 3, o, none⟩ := fun w' o h => hcc w' _ o h l3 (by omega)
          have hDr : rb < D := by omega
          have Hd : Hid (((U.setCell ⟨rb, 0, none⟩ (.bool true)).drew).heap[D]? = some (.deferred (some []))) := (heap_set_ne (w := U) (by omega) _ _).trans hKd
          have Hr : Hid (((U.setCell ⟨rb, 0, none⟩ (.bool true)).drew).heap[rb]? = some (.cells #[.bool true] 4 (0, 0))) := heap_set (w := U) hrU 0 (.bool true)
          have HE : Hid (Ext none1 W ((U.setCell ⟨rb, 0, none⟩ (.bool true)).drew)) := by
            refine Ext.drew ?_
            refine Ext.trans' (hE07.trans' hE (fun j hj e => by have := hE07.size; have := Hrb.out; rcases e with e | e <;> (have e : j = _ := e; omega))) ((Ext.refl (one rb) U).setCell ⟨rb, 0, none⟩ (.inl rfl) _) (fun j hj e => by have e : j = rb := e; have := Hrb.out; omega)
          clear hcc hfU hbU hnU hrU hE g3 hKd
          go_wp2_with fail
          refine wp_region_calm (fun w' => Ext (one rb) U w') (by kernel_rfl) (Ext.refl _ _).drew (fun hHeld => ?_)
          refine take_dst 0 96 (v := ?_) rfl (by kernel_rfl) (by kernel_rfl) (by kernel_rfl) rfl (fun c _ _ h => absurd rfl (h.1 c)) (Or.inl ⟨by rfl, ?_⟩) (by assumption) ?_
          rotate_left
          · intro wx hSw
            first | (go_simp; done) | (go_simp; with_reducible rfl)
          simp only [Act.put, List.setIfInBounds_toArray, List.set_cons_zero, List.set_cons_succ]
          refine take_dst 1 97 (v := ?_) rfl (by kernel_rfl) (by kernel_rfl) (by kernel_rfl) rfl (fun c _ _ h => absurd rfl (h.1 c)) (Or.inl ⟨by rfl, ?_⟩) (by assumption) ?_
          rotate_left
          · intro wx hSw
            first | (go_simp; done) | (go_simp; with_reducible rfl)
          simp only [Act.put, List.setIfInBounds_toArray, List.set_cons_zero, List.set_cons_succ]
          refine take_dst 2 98 (v := ?_) rfl (by kernel_rfl) (by kernel_rfl) (by kernel_rfl) rfl (fun c _ _ h => absurd rfl (h.1 c)) (Or.inl ⟨by rfl, ?_⟩) (by assumption) ?_
          rotate_left
          · intro wx hSw
            first | (go_simp; done) | (go_simp; with_reducible rfl)
          simp only [Act.put, List.setIfInBounds_toArray, List.set_cons_zero, List.set_cons_succ]
          refine take_dst 3 99 (v := ?_) rfl (by kernel_rfl) (by kernel_rfl) (by kernel_rfl) rfl (fun c _ _ h => absurd rfl (h.1 c)) (Or.inl ⟨by rfl, ?_⟩) (by assumption) ?_
          rotate_left
          · intro wx hSw
            first | (go_simp; done) | (go_simp; with_reducible rfl)
          simp only [Act.put, List.setIfInBounds_toArray, List.set_cons_zero, List.set_cons_succ]
          refine take_dst 4 100 (v := ?_) rfl (by kernel_rfl) (by kernel_rfl) (by kernel_rfl) rfl (fun c _ _ h => absurd rfl (h.1 c)) (Or.inl ⟨by rfl, ?_⟩) (by assumption) ?_
          rotate_left
          · intro wx hSw
            first | (go_simp; done) | (go_simp; with_reducible rfl)
          simp only [Act.put, List.setIfInBounds_toArray, List.set_cons_zero, List.set_cons_succ]
          refine take_dst 5 101 (v := ?_) rfl (by kernel_rfl) (by kernel_rfl) (by kernel_rfl) rfl (fun c _ _ h => absurd rfl (h.1 c)) (Or.inl ⟨by rfl, ?_⟩) (by assumption) ?_
          rotate_left
          · intro wx hSw
            first | (go_simp; done) | (go_simp; with_reducible rfl)
          simp only [Act.put, List.setIfInBounds_toArray, List.set_cons_zero, List.set_cons_succ]
          refine take_dst 6 102 (v := .bool true) rfl (by kernel_rfl) (by kernel_rfl) (by kernel_rfl) rfl (fun c _ _ h => absurd rfl (h.1 c)) (Or.inl ⟨by rfl, ?_⟩) (by assumption) ?_
          · intro wx hSw
            first | (go_simp; done) | (go_simp; simp; done) | (go_simp; simp; omega) | (go_simp; omega) | (go_simp; exact decide_eq_false (by omega)) | (go_simp; exact decide_eq_true (by omega))
          simp only [Act.put, List.setIfInBounds_toArray, List.set_cons_zero, List.set_cons_succ]
          refine take_dst 7 103 (v := ?_) rfl (by kernel_rfl) (by kernel_rfl) (by kernel_rfl) rfl (fun c _ _ h => absurd rfl (h.1 c)) (Or.inl ⟨by rfl, ?_⟩) (by assumption) ?_
          rotate_left
          · intro wx hSw
            first | (go_simp; done) | (go_simp; with_reducible rfl)
          simp only [Act.put, List.setIfInBounds_toArray, List.set_cons_zero, List.set_cons_succ]
          refine take_dst 8 104 (v := undef) rfl (by kernel_rfl) (by kernel_rfl) (by kernel_rfl) rfl (fun c _ _ h => absurd rfl (h.1 c)) (Or.inr ⟨by rfl, rfl⟩) (by assumption) ?_
          simp only [Act.put, List.setIfInBounds_toArray, List.set_cons_zero, List.set_cons_succ]
          refine take_dst 9 105 (v := undef) rfl (by kernel_rfl) (by kernel_rfl) (by kernel_rfl) rfl (fun c _ _ h => absurd rfl (h.1 c)) (Or.inr ⟨by rfl, rfl⟩) (by assumption) ?_
          simp only [Act.put, List.setIfInBounds_toArray, List.set_cons_zero, List.set_cons_succ]
          refine take_dst 10 106 (v := undef) rfl (by kernel_rfl) (by kernel_rfl) (by kernel_rfl) rfl (fun c _ _ h => absurd rfl (h.1 c)) (Or.inr ⟨by rfl, rfl⟩) (by assumption) ?_
          simp only [Act.put, List.setIfInBounds_toArray, List.set_cons_zero, List.set_cons_succ]
          refine take_dst 11 107 (v := undef) rfl (by kernel_rfl) (by kernel_rfl) (by kernel_rfl) rfl (fun c _ _ h => absurd rfl (h.1 c)) (Or.inr ⟨by rfl, rfl⟩) (by assumption) ?_
          simp only [Act.put, List.setIfInBounds_toArray, List.set_cons_zero, List.set_cons_succ]
          refine take_dst 12 108 (v := undef) rfl (by kernel_rfl) (by kernel_rfl) (by kernel_rfl) rfl (fun c _ _ h => absurd rfl (h.1 c)) (Or.inr ⟨by rfl, rfl⟩) (by assumption) ?_
          simp only [Act.put, List.setIfInBounds_toArray, List.set_cons_zero, List.set_cons_succ]
          refine take_dst 13 109 (v := undef) rfl (by kernel_rfl) (by kernel_rfl) (by kernel_rfl) rfl (fun c _ _ h => absurd rfl (h.1 c)) (Or.inr ⟨by rfl, rfl⟩) (by assumption) ?_
          simp only [Act.put, List.setIfInBounds_toArray, List.set_cons_zero, List.set_cons_succ]
          refine take_dst 14 110 (v := undef) rfl (by kernel_rfl) (by kernel_rfl) (by kernel_rfl) rfl (fun c _ _ h => absurd rfl (h.1 c)) (Or.inr ⟨by rfl, rfl⟩) (by assumption) ?_
          simp only [Act.put, List.setIfInBounds_toArray, List.set_cons_zero, List.set_cons_succ]
          refine take_dst 15 111 (v := undef) rfl (by kernel_rfl) (by kernel_rfl) (by kernel_rfl) rfl (fun c _ _ h => absurd rfl (h.1 c)) (Or.inr ⟨by rfl, rfl⟩) (by assumption) ?_
          simp only [Act.put, List.setIfInBounds_toArray, List.set_cons_zero, List.set_cons_succ]
          refine take_dst 16 112 (v := undef) rfl (by kernel_rfl) (by kernel_rfl) (by kernel_rfl) rfl (fun c _ _ h => absurd rfl (h.1 c)) (Or.inr ⟨by rfl, rfl⟩) (by assumption) ?_
          simp only [Act.put, List.setIfInBounds_toArray, List.set_cons_zero, List.set_cons_succ]
          refine take_dst 17 113 (v := undef) rfl (by kernel_rfl) (by kernel_rfl) (by kernel_rfl) rfl (fun c _ _ h => absurd rfl (h.1 c)) (Or.inr ⟨by rfl, rfl⟩) (by assumption) ?_
          simp only [Act.put, List.setIfInBounds_toArray, List.set_cons_zero, List.set_cons_succ]
          refine take_dst 18 114 (v := undef) rfl (by kernel_rfl) (by kernel_rfl) (by kernel_rfl) rfl (fun c _ _ h => absurd rfl (h.1 c)) (Or.inr ⟨by rfl, rfl⟩) (by assumption) ?_
          simp only [Act.put, List.setIfInBounds_toArray, List.set_cons_zero, List.set_cons_succ]
          refine take_dst 19 115 (v := undef) rfl (by kernel_rfl) (by kernel_rfl) (by kernel_rfl) rfl (fun c _ _ h => absurd rfl (h.1 c)) (Or.inr ⟨by rfl, rfl⟩) (by assumption) ?_
          simp only [Act.put, List.setIfInBounds_toArray, List.set_cons_zero, List.set_cons_succ]
          refine take_dst 20 116 (v := .bool true) rfl (by kernel_rfl) (by kernel_rfl) (by kernel_rfl) rfl (fun c _ _ h => absurd rfl (h.1 c)) (Or.inl ⟨by rfl, ?_⟩) (by assumption) ?_
          · intro wx hSw
            first | (go_simp; done) | (go_simp; simp; done) | (go_simp; simp; omega) | (go_simp; omega) | (go_simp; exact decide_eq_false (by omega)) | (go_simp; exact decide_eq_true (by omega))
          simp only [Act.put, List.setIfInBounds_toArray, List.set_cons_zero, List.set_cons_succ]
          refine wpAnyH_ready (rs := [21]) (by kernel_rfl) (by simp) ?_
          refine AllReadyH.cons (o := { dst := none, op := Op.store 4 (Operand.tmp 6) (Operand.tmp 116), type := 0, pos := "keeps.go:390", after := #[{ on := 20, ground := Ground.data }, { on := 11, ground := Ground.chain }, { on := 0, ground := Ground.phase }, { on := 1, ground := Ground.phase }, { on := 2, ground := Ground.phase }, { on := 3, ground := Ground.phase }, { on := 4, ground := Ground.phase }, { on := 5, ground := Ground.phase }, { on := 6, ground := Ground.phase }, { on := 7, ground := Ground.phase }, { on := 8, ground := Ground.phase }, { on := 9, ground := Ground.phase }, { on := 10, ground := Ground.phase }, { on := 11, ground := Ground.phase }, { on := 12, ground := Ground.phase }, { on := 13, ground := Ground.phase }, { on := 14, ground := Ground.phase }, { on := 15, ground := Ground.phase }, { on := 16, ground := Ground.phase }, { on := 17, ground := Ground.phase }, { on := 18, ground := Ground.phase }, { on := 19, ground := Ground.phase }, { on := 20, ground := Ground.phase }], guard := none }) rfl (fun K hK => ?_) ?_
          · go_simp
            refine hK.out _ _ (hHeld.setCell ⟨rb, 0, none⟩ (.inl rfl) _) (fun hHeld => ?_)
            clear hK K
            try simp only [Act.put, List.setIfInBounds_toArray, List.set_cons_zero, List.set_cons_succ]
            refine wpAnyH_done (by kernel_rfl) ?_ _
            refine ⟨fun c h => (by cases h), ?_⟩
            clear hHeld k0 k4 ks kn y0 y4 ys yn y5 y6
            go_wp2
            exact HQQ.out _ D _ rfl Hd.out (by omega) Hr.out HE.out
          exact AllReadyH.nil
        · rw [hpn] at g3
          have hlt9 : nn < (L0.length : Int) := by omega
          have hfU := hE.keep hf7 (fun e => by rcases e with e | e <;> (have e : fb = _ := e; omega))
          have hbU := hE.keep hb7 (fun e => by rcases e with e | e <;> (have e : fl = _ := e; omega))
          have hnU := hE.keep t1 (fun e => by rcases e with e | e <;> (have e : B + 1 = _ := e; omega))
          have hrU := hE.keep hr7 (fun e => by rcases e with e | e <;> (have e : rb = _ := e; omega))
          have y0 := cell_of hfU 0
          have y4 := cell_of hbU 4
          have yn := cell_of hnU 0
          have ys := cell_of g3 0
          have y5 := cell_of hrU 0
          have y6 := frozen_of hrU 0
          simp at y0 y4 yn ys y5
          have l0 := lt_of_heap hfU
          have l1 := lt_of_heap hbU
          have l2 := lt_of_heap hnU
          have l3 := lt_of_heap g3
          have hne : fl ≠ rb := fun e => by have := hft fl hA1; omega
          have hcc : ∀ (w' : World) (b o : Nat), Ext (one rb) U w' → b < U.heap.size → b ≠ rb → w'.cell? ⟨b, o, none⟩ = U.cell? ⟨b, o, none⟩ := fun w' b o hE hl hn => by
            unfold World.cell?
            simp only [hE.block b hl hn]
          have k0 : ∀ (w' : World) (o : Nat), Ext (one rb) U w' → w'.cell? ⟨fb, o, none⟩ = U.cell? ⟨fb, o, none⟩ := fun w' o h => hcc w' _ o h l0 (by omega)
          have k4 : ∀ (w' : World) (o : Nat), Ext (one rb) U w' → w'.cell? ⟨fl, o, none⟩ = U.cell? ⟨fl, o, none⟩ := fun w' o h => hcc w' _ o h l1 hne
          have kn : ∀ (w' : World) (o : Nat), Ext (one rb) U w' → w'.cell? ⟨B + 1, o, none⟩ = U.cell? ⟨B + 1, o, none⟩ := fun w' o h => hcc w' _ o h l2 (by omega)
          have ks : ∀ (w' : World) (o : Nat), Ext (one rb) U w' → w'.cell? ⟨B + 3, o, none⟩ = U.cell? ⟨B + 3, o, none⟩ := fun w' o h => hcc w' _ o h l3 (by omega)
          have hDr : rb < D := by omega
          have Hd : Hid (((U.setCell ⟨rb, 0, none⟩ (.bool true)).drew).heap[D]? = some (.deferred (some []))) := (heap_set_ne (w := U) (by omega) _ _).trans hKd
          have Hr : Hid (((U.setCell ⟨rb, 0, none⟩ (.bool true)).drew).heap[rb]? = some (.cells #[.bool true] 4 (0, 0))) := heap_set (w := U) hrU 0 (.bool true)
          have HE : Hid (Ext none1 W ((U.setCell ⟨rb, 0, none⟩ (.bool true)).drew)) := by
            refine Ext.drew ?_
            refine Ext.trans' (hE07.trans' hE (fun j hj e => by have := hE07.size; have := Hrb.out; rcases e with e | e <;> (have e : j = _ := e; omega))) ((Ext.refl (one rb) U).setCell ⟨rb, 0, none⟩ (.inl rfl) _) (fun j hj e => by have e : j = rb := e; have := Hrb.out; omega)
          clear hcc hfU hbU hnU hrU hE g3 hKd
          go_wp2_with fail
          refine wp_region_calm (fun w' => Ext (one rb) U w') (by kernel_rfl) (Ext.refl _ _).drew (fun hHeld => ?_)
          refine take_dst 0 96 (v := ?_) rfl (by kernel_rfl) (by kernel_rfl) (by kernel_rfl) rfl (fun c _ _ h => absurd rfl (h.1 c)) (Or.inl ⟨by rfl, ?_⟩) (by assumption) ?_
          rotate_left
          · intro wx hSw
            first | (go_simp; done) | (go_simp; with_reducible rfl)
          simp only [Act.put, List.setIfInBounds_toArray, List.set_cons_zero, List.set_cons_succ]
          refine take_dst 1 97 (v := ?_) rfl (by kernel_rfl) (by kernel_rfl) (by kernel_rfl) rfl (fun c _ _ h => absurd rfl (h.1 c)) (Or.inl ⟨by rfl, ?_⟩) (by assumption) ?_
          rotate_left
          · intro wx hSw
            first | (go_simp; done) | (go_simp; with_reducible rfl)
          simp only [Act.put, List.setIfInBounds_toArray, List.set_cons_zero, List.set_cons_succ]
          refine take_dst 2 98 (v := ?_) rfl (by kernel_rfl) (by kernel_rfl) (by kernel_rfl) rfl (fun c _ _ h => absurd rfl (h.1 c)) (Or.inl ⟨by rfl, ?_⟩) (by assumption) ?_
          rotate_left
          · intro wx hSw
            first | (go_simp; done) | (go_simp; with_reducible rfl)
          simp only [Act.put, List.setIfInBounds_toArray, List.set_cons_zero, List.set_cons_succ]
          refine take_dst 3 99 (v := ?_) rfl (by kernel_rfl) (by kernel_rfl) (by kernel_rfl) rfl (fun c _ _ h => absurd rfl (h.1 c)) (Or.inl ⟨by rfl, ?_⟩) (by assumption) ?_
          rotate_left
          · intro wx hSw
            first | (go_simp; done) | (go_simp; with_reducible rfl)
          simp only [Act.put, List.setIfInBounds_toArray, List.set_cons_zero, List.set_cons_succ]
          refine take_dst 4 100 (v := ?_) rfl (by kernel_rfl) (by kernel_rfl) (by kernel_rfl) rfl (fun c _ _ h => absurd rfl (h.1 c)) (Or.inl ⟨by rfl, ?_⟩) (by assumption) ?_
          rotate_left
          · intro wx hSw
            first | (go_simp; done) | (go_simp; with_reducible rfl)
          simp only [Act.put, List.setIfInBounds_toArray, List.set_cons_zero, List.set_cons_succ]
          refine take_dst 5 101 (v := ?_) rfl (by kernel_rfl) (by kernel_rfl) (by kernel_rfl) rfl (fun c _ _ h => absurd rfl (h.1 c)) (Or.inl ⟨by rfl, ?_⟩) (by assumption) ?_
          rotate_left
          · intro wx hSw
            first | (go_simp; done) | (go_simp; with_reducible rfl)
          simp only [Act.put, List.setIfInBounds_toArray, List.set_cons_zero, List.set_cons_succ]
          refine take_dst 6 102 (v := .bool false) rfl (by kernel_rfl) (by kernel_rfl) (by kernel_rfl) rfl (fun c _ _ h => absurd rfl (h.1 c)) (Or.inl ⟨by rfl, ?_⟩) (by assumption) ?_
          · intro wx hSw
            first | (go_simp; done) | (go_simp; simp; done) | (go_simp; simp; omega) | (go_simp; omega) | (go_simp; exact decide_eq_false (by omega)) | (go_simp; exact decide_eq_true (by omega))
          simp only [Act.put, List.setIfInBounds_toArray, List.set_cons_zero, List.set_cons_succ]
          refine take_dst 7 103 (v := ?_) rfl (by kernel_rfl) (by kernel_rfl) (by kernel_rfl) rfl (fun c _ _ h => absurd rfl (h.1 c)) (Or.inl ⟨by rfl, ?_⟩) (by assumption) ?_
          rotate_left
          · intro wx hSw
            first | (go_simp; done) | (go_simp; with_reducible rfl)
          simp only [Act.put, List.setIfInBounds_toArray, List.set_cons_zero, List.set_cons_succ]
          refine take_dst 8 104 (v := ?_) rfl (by kernel_rfl) (by kernel_rfl) (by kernel_rfl) rfl (fun c _ _ h => absurd rfl (h.1 c)) (Or.inl ⟨by rfl, ?_⟩) (by assumption) ?_
          rotate_left
          · intro wx hSw
            first | (go_simp; done) | (go_simp; with_reducible rfl)
          simp only [Act.put, List.setIfInBounds_toArray, List.set_cons_zero, List.set_cons_succ]
          refine take_dst 9 105 (v := ?_) rfl (by kernel_rfl) (by kernel_rfl) (by kernel_rfl) rfl (fun c _ _ h => absurd rfl (h.1 c)) (Or.inl ⟨by rfl, ?_⟩) (by assumption) ?_
          rotate_left
          · intro wx hSw
            first | (go_simp; done) | (go_simp; with_reducible rfl)
          simp only [Act.put, List.setIfInBounds_toArray, List.set_cons_zero, List.set_cons_succ]
          refine take_dst 10 106 (v := .bool true) rfl (by kernel_rfl) (by kernel_rfl) (by kernel_rfl) rfl (fun c _ _ h => absurd rfl (h.1 c)) (Or.inl ⟨by rfl, ?_⟩) (by assumption) ?_
          · intro wx hSw
            first | (go_simp; done) | (go_simp; simp; done) | (go_simp; simp; omega) | (go_simp; omega) | (go_simp; exact decide_eq_false (by omega)) | (go_simp; exact decide_eq_true (by omega))
          simp only [Act.put, List.setIfInBounds_toArray, List.set_cons_zero, List.set_cons_succ]
          refine take_dst 11 107 (v := ?_) rfl (by kernel_rfl) (by kernel_rfl) (by kernel_rfl) rfl (fun c _ _ h => absurd rfl (h.1 c)) (Or.inl ⟨by rfl, ?_⟩) (by assumption) ?_
          rotate_left
          · intro wx hSw
            first | (go_simp; done) | (go_simp; with_reducible rfl)
          simp only [Act.put, List.setIfInBounds_toArray, List.set_cons_zero, List.set_cons_succ]
          refine take_dst 12 108 (v := ?_) rfl (by kernel_rfl) (by kernel_rfl) (by kernel_rfl) rfl (fun c _ _ h => absurd rfl (h.1 c)) (Or.inl ⟨by rfl, ?_⟩) (by assumption) ?_
          rotate_left
          · intro wx hSw
            first | (go_simp; done) | (go_simp; with_reducible rfl)
          simp only [Act.put, List.setIfInBounds_toArray, List.set_cons_zero, List.set_cons_succ]
          refine take_dst 13 109 (v := ?_) rfl (by kernel_rfl) (by kernel_rfl) (by kernel_rfl) rfl (fun c _ _ h => absurd rfl (h.1 c)) (Or.inl ⟨by rfl, ?_⟩) (by assumption) ?_
          rotate_left
          · intro wx hSw
            first | (go_simp; done) | (go_simp; with_reducible rfl)
          simp only [Act.put, List.setIfInBounds_toArray, List.set_cons_zero, List.set_cons_succ]
          refine take_dst 14 110 (v := ?_) rfl (by kernel_rfl) (by kernel_rfl) (by kernel_rfl) rfl (fun c _ _ h => absurd rfl (h.1 c)) (Or.inl ⟨by rfl, ?_⟩) (by assumption) ?_
          rotate_left
          · intro wx hSw
            first | (go_simp; done) | (go_simp; with_reducible rfl)
          simp only [Act.put, List.setIfInBounds_toArray, List.set_cons_zero, List.set_cons_succ]
          refine take_dst 15 111 (v := ?_) rfl (by kernel_rfl) (by kernel_rfl) (by kernel_rfl) rfl (fun c _ _ h => absurd rfl (h.1 c)) (Or.inl ⟨by rfl, ?_⟩) (by assumption) ?_
          rotate_left
          · intro wx hSw
            first | (go_simp; done) | (go_simp; with_reducible rfl)
          simp only [Act.put, List.setIfInBounds_toArray, List.set_cons_zero, List.set_cons_succ]
          refine take_dst 16 112 (v := ?_) rfl (by kernel_rfl) (by kernel_rfl) (by kernel_rfl) rfl (fun c _ _ h => absurd rfl (h.1 c)) (Or.inl ⟨by rfl, ?_⟩) (by assumption) ?_
          rotate_left
          · intro wx hSw
            first | (go_simp; done) | (go_simp; with_reducible rfl)
          simp only [Act.put, List.setIfInBounds_toArray, List.set_cons_zero, List.set_cons_succ]
          refine take_dst 17 113 (v := ?_) rfl (by kernel_rfl) (by kernel_rfl) (by kernel_rfl) rfl (fun c _ _ h => absurd rfl (h.1 c)) (Or.inl ⟨by rfl, ?_⟩) (by assumption) ?_
          rotate_left
          · intro wx hSw
            first | (go_simp; done) | (go_simp; with_reducible rfl)
          simp only [Act.put, List.setIfInBounds_toArray, List.set_cons_zero, List.set_cons_succ]
          refine take_dst 18 114 (v := .bool true) rfl (by kernel_rfl) (by kernel_rfl) (by kernel_rfl) rfl (fun c _ _ h => absurd rfl (h.1 c)) (Or.inl ⟨by rfl, ?_⟩) (by assumption) ?_
          · intro wx hSw
            first | (go_simp; done) | (go_simp; simp; done) | (go_simp; simp; omega) | (go_simp; omega) | (go_simp; exact decide_eq_false (by omega)) | (go_simp; exact decide_eq_true (by omega))
          simp only [Act.put, List.setIfInBounds_toArray, List.set_cons_zero, List.set_cons_succ]
          refine take_dst 19 115 (v := .bool true) rfl (by kernel_rfl) (by kernel_rfl) (by kernel_rfl) rfl (fun c _ _ h => absurd rfl (h.1 c)) (Or.inl ⟨by rfl, ?_⟩) (by assumption) ?_
          · intro wx hSw
            first | (go_simp; done) | (go_simp; simp; done) | (go_simp; simp; omega) | (go_simp; omega) | (go_simp; exact decide_eq_false (by omega)) | (go_simp; exact decide_eq_true (by omega))
          simp only [Act.put, List.setIfInBounds_toArray, List.set_cons_zero, List.set_cons_succ]
          refine take_dst 20 116 (v := .bool true) rfl (by kernel_rfl) (by kernel_rfl) (by kernel_rfl) rfl (fun c _ _ h => absurd rfl (h.1 c)) (Or.inl ⟨by rfl, ?_⟩) (by assumption) ?_
          · intro wx hSw
            first | (go_simp; done) | (go_simp; simp; done) | (go_simp; simp; omega) | (go_simp; omega) | (go_simp; exact decide_eq_false (by omega)) | (go_simp; exact decide_eq_true (by omega))
          simp only [Act.put, List.setIfInBounds_toArray, List.set_cons_zero, List.set_cons_succ]
          refine wpAnyH_ready (rs := [21]) (by kernel_rfl) (by simp) ?_
          refine AllReadyH.cons (o := { dst := none, op := Op.store 4 (Operand.tmp 6) (Operand.tmp 116), type := 0, pos := "keeps.go:390", after := #[{ on := 20, ground := Ground.data }, { on := 11, ground := Ground.chain }, { on := 0, ground := Ground.phase }, { on := 1, ground := Ground.phase }, { on := 2, ground := Ground.phase }, { on := 3, ground := Ground.phase }, { on := 4, ground := Ground.phase }, { on := 5, ground := Ground.phase }, { on := 6, ground := Ground.phase }, { on := 7, ground := Ground.phase }, { on := 8, ground := Ground.phase }, { on := 9, ground := Ground.phase }, { on := 10, ground := Ground.phase }, { on := 11, ground := Ground.phase }, { on := 12, ground := Ground.phase }, { on := 13, ground := Ground.phase }, { on := 14, ground := Ground.phase }, { on := 15, ground := Ground.phase }, { on := 16, ground := Ground.phase }, { on := 17, ground := Ground.phase }, { on := 18, ground := Ground.phase }, { on := 19, ground := Ground.phase }, { on := 20, ground := Ground.phase }], guard := none }) rfl (fun K hK => ?_) ?_
          · go_simp
            refine hK.out _ _ (hHeld.setCell ⟨rb, 0, none⟩ (.inl rfl) _) (fun hHeld => ?_)
            clear hK K
            try simp only [Act.put, List.setIfInBounds_toArray, List.set_cons_zero, List.set_cons_succ]
            refine wpAnyH_done (by kernel_rfl) ?_ _
            refine ⟨fun c h => (by cases h), ?_⟩
            clear hHeld k0 k4 ks kn y0 y4 ys yn y5 y6
            go_wp2
            exact HQQ.out _ D _ rfl Hd.out (by omega) Hr.out HE.out
          exact AllReadyH.nil
end Go.Proofs.YtbagfepdmmfegaaDoor
