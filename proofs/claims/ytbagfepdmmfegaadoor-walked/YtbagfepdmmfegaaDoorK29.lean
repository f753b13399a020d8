import Derived.Test.YtbagfepdmmfegaaDoorK28
set_option linter.unusedVariables false
set_option linter.unusedSimpArgs false
/- APART. -/
namespace Go.Proofs.YtbagfepdmmfegaaDoor
open Go.RowKit

theorem Mid.keep {PA : World → Nat → (Nat → Prop) → Ti.St → Prop} {W V V' : World} {fl : Nat} {h n s : Int} {S : Ti.St} {L : List Hb} {big : Prop} (F : Face PA big) (hm : Mid PA W V fl h n s S L) (hE : Ext none1 V V') : Mid PA W V' fl h n s S L := by
  obtain ⟨foot, hA, hE0, r⟩ := hm
  exact ⟨foot, hA.keep F hE (fun _ _ x => x) (fun x => x), hE0.trans hE, r⟩
theorem Ext.cell {w w' : World} (h : Ext none1 w w') (b o : Nat) (hb : b < w.heap.size) : w'.cell? ⟨b, o, none⟩ = w.cell? ⟨b, o, none⟩ := World.cell?_of_block (h.block b hb (fun x => x))

set_option maxRecDepth 100000 in
set_option maxHeartbeats 8000000 in
theorem apart_any (W : World) (hG : GlobAt W) (h n s : Int)
    (h0 : -9223372036854775808 ≤ h) (h1 : h ≤ 9223372036854775807) (n0 : -9223372036854775808 ≤ n) (n1 : n ≤ 9223372036854775807) (s0 : -9223372036854775808 ≤ s) (s1 : s ≤ 9223372036854775807)
    (sv : Value) (ops : List O3) (hs : S3At W sv ops) (hlen : ops.length ≤ 5864062014806) (hok : ∀ o ∈ ops, o.ok) :
    Calls Tryd.prog 5 #[.agg #[.int .i64 h, .int .i64 n, .int .i64 s], sv] W fun e W' => e = .returned (.bool true) ∧ Ext none1 W W' := by
  obtain ⟨pa, cap, rfl, hcells⟩ := hs.shape
  obtain ⟨N, hN⟩ : ∃ N, ops.length = N := ⟨_, rfl⟩
  have HC : Hid _ := hcells
  have HO : Hid _ := hok
  have HN : Hid (ops.length = N) := hN
  rw [hN] at hlen ⊢
  clear hs hcells hok hN
  have hE0 : Ext none1 W (W.alloc (.cells #[.int .i64 h, .int .i64 n, .int .i64 s] 26)) := (Ext.refl _ _).alloc _
  have Hop : Hid _ := Mid.opened face _ (hG.keep hE0 (fun x => x)) h n s h0 h1 n0 n1 s0 s1
  obtain ⟨W0, HW0⟩ : ∃ W0, Hid (W.alloc (.cells #[.int .i64 h, .int .i64 n, .int .i64 s] 26) = W0) := ⟨_, rfl⟩
  rw [HW0.out] at hE0
  have HE0 : Hid _ := hE0
  clear hE0 hG
  go_enter Tryd.func5, Tryd.ntmps5
  go_wp2_with fail
  refine Calls.mono Hop.out ?_
  clear Hop
  rw [HW0.out]
  clear HW0
  rintro e W1 ⟨fl, rfl, hE1, hm⟩
  have HM : Hid _ := hm
  clear hm hE1
  go_wp2
  go_loopw [6, 7, 8, 9, 10, 11, 12] (fun i _ _ _ _ _ _ wr => ∃ (k : Nat) (S : Ti.St) (L : List Hb), k ≤ N ∧ i = .int .i64 k ∧ Mid PrIs W0 wr fl (1 + pickI h 4) (1 + pickI n 16) (1 + pickI s 4) S L)
    (fun i _ _ _ _ _ _ _ => N - (intOf i).toNat)
  case atStart => exact ⟨0, _, _, Nat.zero_le _, rfl, HM.out⟩
  case round =>
    obtain ⟨k, S0, L0, hk, rfl, hm⟩ := hrel
    have hEr : Ext none1 W wr := HE0.out.trans (let ⟨_, _, e, _⟩ := hm; e)
    by_cases hlt : k < N
    · obtain ⟨o, ho⟩ : ∃ o, ops[k]? = some o := ⟨_, List.getElem?_eq_getElem (by rw [HN.out]; exact hlt)⟩
      have hook := HO.out o (List.mem_of_getElem? ho)
      obtain ⟨ad, rfl, hadl, q0, q1, q2⟩ := HC.out k o ho
      have hcw : ∀ j, wr.cell? (ad.add j) = W.cell? (ad.add j) := fun j => World.cell?_of_block (hEr.block _ (by rw [add_block]; exact hadl) (fun x => x))
      rw [← hcw] at q0 q1 q2
      rw [← cell_add _ _ _ _ (by omega)] at q1 q2
      have hlt' : (k : Int) < (N : Int) := by omega
      have Hst : Hid _ := Mid.step face hm o hook
      clear hm HM hcw
      go_wp2_with fail
      refine Calls.mono Hst.out ?_
      clear Hst q0 q1 q2
      rintro e V ⟨rfl, S, L, hm, _, _⟩
      have Hkp : Hid _ := Mid.kept face hm
      clear hm
      go_wp2_with fail
      refine Calls.mono Hkp.out ?_
      clear Hkp
      rintro e w2 ⟨rfl, hm⟩
      have HM2 : Hid _ := hm
      obtain ⟨foot, hA, hE, hf, hfl2, e1, e2, e3, _⟩ := hm
      have hfew := hA.few
      obtain ⟨fp, x, v, hX⟩ := hA.fx
      obtain ⟨pv, capv, rfl, hpv⟩ : ∃ pv capv, v = .slice pv L.length capv ∧ (0 < L.length → ∃ g, pv = some ⟨g, 0, none⟩) := by
        rcases hX.b3.2 with ⟨rfl, e⟩ | ⟨g, cap, cur, rfl, _⟩
        · exact ⟨none, 0, by rw [e], fun h => by omega⟩
        · exact ⟨_, cap, rfl, fun _ => ⟨g, rfl⟩⟩
      have hlf := lt_of_heap hX.b1
      have hI := hX.hA.ok.inv
      have h16 := hI.f16
      have Hap : Hid (∀ (i j : Nat) (a b : Hb), L[i]? = some a → L[j]? = some b → i ≠ j → a.b.at_ + a.b.size ≤ b.b.at_ ∨ b.b.at_ + b.b.size ≤ a.b.at_) := fun i j a b ha hb hij => hX.hA.ok.apart (i := i) (j := j) (by rw [List.getElem?_map, ha]; rfl) (by rw [List.getElem?_map, hb]; rfl) hij
      have Hwi : Hid (∀ y ∈ L, 1 ≤ y.b.size ∧ y.b.size ≤ 256 ∧ 0 ≤ y.b.at_ ∧ y.b.at_ + y.b.size ≤ 64 * S.sups.length) := fun y hy => Ti.within_of S hI.toInv0 (hX.hA.ok.mem (List.mem_map.2 ⟨y, hy, rfl⟩))
      have f4 := cell_of hX.b1 4
      have f2 := cell_of hX.b1 2
      simp at f4 f2
      have Hrow : Hid (∀ g, pv = some ⟨g, 0, none⟩ → g < w2.heap.size ∧ ∀ (i : Nat) (y : Hb), L[i]? = some y → w2.cell? ⟨g, i * 3, none⟩ = some (.int .i64 y.b.at_) ∧ w2.cell? ⟨g, i * 3 + 1, none⟩ = some (.int .i64 y.b.size) ∧ w2.cell? ⟨g, i * 3 + 2, none⟩ = some (.slice (some ⟨y.g, 0, none⟩) y.b.size.toNat y.b.size.toNat)) := by
        rintro g rfl
        refine ⟨(own_base hX.b3 rfl).2, fun i y hy => ?_⟩
        have hge := encB_get L i y hy
        have g0 := hX.b3.cells (g := g) rfl _ _ hge.1
        have g1 := hX.b3.cells (g := g) rfl _ _ hge.2.1
        have g2 := hX.b3.cells (g := g) rfl _ _ hge.2.2
        rw [addr_add] at g0 g1 g2
        exact ⟨g0, g1, g2⟩
      clear hX hA hE hf e1 e2 e3
      go_wp2
      go_loopw [9, 10, 11, 12] (fun t _ _ _ w3 => ∃ m : Nat, m ≤ L.length ∧ t = .int .i64 m ∧ Ext none1 w2 w3) (fun t _ _ _ _ => L.length - (intOf t).toNat)
      case atStart => exact ⟨0, Nat.zero_le _, rfl, Ext.refl _ _⟩
      case round =>
        obtain ⟨m, hml, rfl, hE3⟩ := hrel
        have f4w := (hE3.cell fl 4 hlf).trans f4
        by_cases hmlt : m < L.length
        · obtain ⟨g, rfl⟩ := hpv (by omega)
          obtain ⟨y, hy⟩ : ∃ y, L[m]? = some y := ⟨_, List.getElem?_eq_getElem hmlt⟩
          obtain ⟨hgl, hrow⟩ := Hrow.out g rfl
          obtain ⟨g0, g1, g2⟩ := hrow m y hy
          rw [← hE3.cell g _ hgl] at g0 g1 g2
          obtain ⟨y1, y2, y3, y4⟩ := Hwi.out y (List.mem_of_getElem? hy)
          have hmlt' : (m : Int) < (L.length : Int) := by omega
          have hEb : Ext none1 w2 (wr.alloc (.cells #[.int .i64 y.b.at_, .int .i64 y.b.size, .slice (some ⟨y.g, 0, none⟩) y.b.size.toNat y.b.size.toNat] 40)) := hE3.alloc _
          have hbx := heap_alloc_new wr (.cells #[.int .i64 y.b.at_, .int .i64 y.b.size, .slice (some ⟨y.g, 0, none⟩) y.b.size.toNat y.b.size.toNat] 40)
          obtain ⟨Wb, HWb⟩ : ∃ Wb, Hid (wr.alloc (.cells #[.int .i64 y.b.at_, .int .i64 y.b.size, .slice (some ⟨y.g, 0, none⟩) y.b.size.toNat y.b.size.toNat] 40) = Wb) := ⟨_, rfl⟩
          rw [HWb.out] at hEb hbx
          obtain ⟨bx, hbxd⟩ : ∃ bx, bx = wr.heap.size := ⟨_, rfl⟩
          rw [← hbxd] at hbx
          have x0 := cell_of hbx 0
          have x1 := cell_of hbx 1
          simp at x0 x1
          have f2b := (hEb.cell fl 2 hlf).trans f2
          have hbl := lt_of_heap hbx
          have k1 : ∀ (w' : World) (o : Nat), Ext none1 Wb w' → w'.cell? ⟨bx, o, none⟩ = Wb.cell? ⟨bx, o, none⟩ := fun w' o hE => hE.cell bx o hbl
          have k2 : ∀ (w' : World) (o : Nat), Ext none1 Wb w' → w'.cell? ⟨fl, o, none⟩ = Wb.cell? ⟨fl, o, none⟩ := fun w' o hE => hE.cell fl o (Nat.lt_of_lt_of_le hlf hEb.size)
          have hwr1 : IntKind.i64.wrap (y.b.at_ + y.b.size) = y.b.at_ + y.b.size := by rw [IntKind.wrap_i64]; omega
          have hwr2 : IntKind.i64.wrap (64 * (S.sups.length : Int)) = 64 * (S.sups.length : Int) := by rw [IntKind.wrap_i64]; omega
          have hn1' : ¬ y.b.at_ < 0 := by omega
          have hn2' : ¬ 64 * (S.sups.length : Int) < y.b.at_ + y.b.size := by omega
          have HEd : Hid (Ext none1 w2 Wb.drew) := hEb.drew
          have Hbd : Hid (Wb.drew.heap[bx]? = some _) := hbx
          clear hE3 hEb hrow
          go_wp2_with fail
          rw [HWb.out, ← hbxd]
          clear HWb hbxd f4w g0 g1 g2
          refine wp_region_held_drew (S := fun w' => Ext none1 Wb w') (by kernel_rfl) (Ext.refl _ _).drew (fun hHeld => ?_)
          refine take_dst 0 53 (v := ?_) rfl (by kernel_rfl) (by kernel_rfl) (by kernel_rfl) rfl (fun _ _ _ h => h) (Or.inl ⟨by rfl, ?_⟩) (by assumption) ?_
          rotate_left
          · intro wx hSw
            first | (go_simp; done) | (go_simp; with_reducible rfl)
          simp only [Act.put, List.setIfInBounds_toArray, List.set_cons_zero, List.set_cons_succ]
          refine take_dst 1 54 (v := ?_) rfl (by kernel_rfl) (by kernel_rfl) (by kernel_rfl) rfl (fun _ _ _ h => h) (Or.inl ⟨by rfl, ?_⟩) (by assumption) ?_
          rotate_left
          · intro wx hSw
            first | (go_simp; done) | (go_simp; with_reducible rfl)
          simp only [Act.put, List.setIfInBounds_toArray, List.set_cons_zero, List.set_cons_succ]
          refine take_dst 2 55 (v := .bool false) rfl (by kernel_rfl) (by kernel_rfl) (by kernel_rfl) rfl (fun _ _ _ h => h) (Or.inl ⟨by rfl, ?_⟩) (by assumption) ?_
          · intro wx hSw
            first | (go_simp; done) | (go_simp; simp; done) | (go_simp; simp; omega) | (go_simp; omega) | (go_simp; exact decide_eq_false (by omega))
          simp only [Act.put, List.setIfInBounds_toArray, List.set_cons_zero, List.set_cons_succ]
          refine take_dst 3 56 (v := ?_) rfl (by kernel_rfl) (by kernel_rfl) (by kernel_rfl) rfl (fun _ _ _ h => h) (Or.inl ⟨by rfl, ?_⟩) (by assumption) ?_
          rotate_left
          · intro wx hSw
            first | (go_simp; done) | (go_simp; with_reducible rfl)
          simp only [Act.put, List.setIfInBounds_toArray, List.set_cons_zero, List.set_cons_succ]
          refine take_dst 4 57 (v := ?_) rfl (by kernel_rfl) (by kernel_rfl) (by kernel_rfl) rfl (fun _ _ _ h => h) (Or.inl ⟨by rfl, ?_⟩) (by assumption) ?_
          rotate_left
          · intro wx hSw
            first | (go_simp; done) | (go_simp; with_reducible rfl)
          simp only [Act.put, List.setIfInBounds_toArray, List.set_cons_zero, List.set_cons_succ]
          refine take_dst 5 58 (v := ?_) rfl (by kernel_rfl) (by kernel_rfl) (by kernel_rfl) rfl (fun _ _ _ h => h) (Or.inl ⟨by rfl, ?_⟩) (by assumption) ?_
          rotate_left
          · intro wx hSw
            first | (go_simp; done) | (go_simp; with_reducible rfl)
          simp only [Act.put, List.setIfInBounds_toArray, List.set_cons_zero, List.set_cons_succ]
          refine take_dst 6 59 (v := ?_) rfl (by kernel_rfl) (by kernel_rfl) (by kernel_rfl) rfl (fun _ _ _ h => h) (Or.inl ⟨by rfl, ?_⟩) (by assumption) ?_
          rotate_left
          · intro wx hSw
            first | (go_simp; done) | (go_simp; with_reducible rfl)
          simp only [Act.put, List.setIfInBounds_toArray, List.set_cons_zero, List.set_cons_succ]
          refine take_dst 7 60 (v := ?_) rfl (by kernel_rfl) (by kernel_rfl) (by kernel_rfl) rfl (fun _ _ _ h => h) (Or.inl ⟨by rfl, ?_⟩) (by assumption) ?_
          rotate_left
          · intro wx hSw
            first | (go_simp; done) | (go_simp; with_reducible rfl)
          simp only [Act.put, List.setIfInBounds_toArray, List.set_cons_zero, List.set_cons_succ]
          refine take_dst 8 61 (v := ?_) rfl (by kernel_rfl) (by kernel_rfl) (by kernel_rfl) rfl (fun _ _ _ h => h) (Or.inl ⟨by rfl, ?_⟩) (by assumption) ?_
          rotate_left
          · intro wx hSw
            first | (go_simp; done) | (go_simp; with_reducible rfl)
          simp only [Act.put, List.setIfInBounds_toArray, List.set_cons_zero, List.set_cons_succ]
          refine take_dst 9 62 (v := ?_) rfl (by kernel_rfl) (by kernel_rfl) (by kernel_rfl) rfl (fun _ _ _ h => h) (Or.inl ⟨by rfl, ?_⟩) (by assumption) ?_
          rotate_left
          · intro wx hSw
            first | (go_simp; done) | (go_simp; with_reducible rfl)
          simp only [Act.put, List.setIfInBounds_toArray, List.set_cons_zero, List.set_cons_succ]
          refine take_dst 10 63 (v := ?_) rfl (by kernel_rfl) (by kernel_rfl) (by kernel_rfl) rfl (fun _ _ _ h => h) (Or.inl ⟨by rfl, ?_⟩) (by assumption) ?_
          rotate_left
          · intro wx hSw
            first | (go_simp; done) | (go_simp; with_reducible rfl)
          simp only [Act.put, List.setIfInBounds_toArray, List.set_cons_zero, List.set_cons_succ]
          refine take_dst 11 64 (v := ?_) rfl (by kernel_rfl) (by kernel_rfl) (by kernel_rfl) rfl (fun _ _ _ h => h) (Or.inl ⟨by rfl, ?_⟩) (by assumption) ?_
          rotate_left
          · intro wx hSw
            first | (go_simp; done) | (go_simp; with_reducible rfl)
          simp only [Act.put, List.setIfInBounds_toArray, List.set_cons_zero, List.set_cons_succ]
          refine take_dst 12 65 (v := ?_) rfl (by kernel_rfl) (by kernel_rfl) (by kernel_rfl) rfl (fun _ _ _ h => h) (Or.inl ⟨by rfl, ?_⟩) (by assumption) ?_
          rotate_left
          · intro wx hSw
            first | (go_simp; done) | (go_simp; with_reducible rfl)
          simp only [Act.put, List.setIfInBounds_toArray, List.set_cons_zero, List.set_cons_succ]
          refine take_dst 13 66 (v := ?_) rfl (by kernel_rfl) (by kernel_rfl) (by kernel_rfl) rfl (fun _ _ _ h => h) (Or.inl ⟨by rfl, ?_⟩) (by assumption) ?_
          rotate_left
          · intro wx hSw
            first | (go_simp; done) | (go_simp; with_reducible rfl)
          simp only [Act.put, List.setIfInBounds_toArray, List.set_cons_zero, List.set_cons_succ]
          refine take_dst 14 67 (v := ?_) rfl (by kernel_rfl) (by kernel_rfl) (by kernel_rfl) rfl (fun _ _ _ h => h) (Or.inl ⟨by rfl, ?_⟩) (by assumption) ?_
          rotate_left
          · intro wx hSw
            first | (go_simp; done) | (go_simp; with_reducible rfl)
          simp only [Act.put, List.setIfInBounds_toArray, List.set_cons_zero, List.set_cons_succ]
          refine take_dst 15 68 (v := .bool false) rfl (by kernel_rfl) (by kernel_rfl) (by kernel_rfl) rfl (fun _ _ _ h => h) (Or.inl ⟨by rfl, ?_⟩) (by assumption) ?_
          · intro wx hSw
            first | (go_simp; done) | (go_simp; simp; done) | (go_simp; simp; omega) | (go_simp; omega) | (go_simp; exact decide_eq_false (by omega))
          simp only [Act.put, List.setIfInBounds_toArray, List.set_cons_zero, List.set_cons_succ]
          refine take_dst 16 69 (v := ?_) rfl (by kernel_rfl) (by kernel_rfl) (by kernel_rfl) rfl (fun _ _ _ h => h) (Or.inl ⟨by rfl, ?_⟩) (by assumption) ?_
          rotate_left
          · intro wx hSw
            first | (go_simp; done) | (go_simp; with_reducible rfl)
          simp only [Act.put, List.setIfInBounds_toArray, List.set_cons_zero, List.set_cons_succ]
          refine wpAnyH_done (by kernel_rfl) ?_ _
          clear hHeld k1 k2 x0 x1 f2b
          have hEd := HEd.out
          have hbd := Hbd.out
          clear HEd Hbd hbx
          generalize Wb.drew = Wd at *
          have hbl2 := lt_of_heap hbd
          go_wp2
          go_loopw [11, 12] (fun t _ w5 => ∃ j : Nat, j ≤ m ∧ t = .int .i64 j ∧ Ext none1 Wd w5) (fun t _ _ => m - (intOf t).toNat)
          case atStart => exact ⟨0, Nat.zero_le _, rfl, Ext.refl _ _⟩
          case round =>
            obtain ⟨j, hj, rfl, hE5⟩ := hrel
            by_cases hjm : j < m
            · have hjm' : (j : Int) < (m : Int) := by omega
              have hjl' : (j : Int) < (L.length : Int) := by omega
              have hE6 := hEd.trans hE5
              have f4w := (hE6.cell fl 4 hlf).trans f4
              obtain ⟨o2, ho2⟩ : ∃ o2, L[j]? = some o2 := ⟨_, List.getElem?_eq_getElem (by omega)⟩
              obtain ⟨_, hrow⟩ := Hrow.out g rfl
              obtain ⟨g0, g1, g2⟩ := hrow j o2 ho2
              rw [← hE6.cell g _ hgl] at g0 g1 g2
              obtain ⟨z1, z2, z3, z4⟩ := Hwi.out o2 (List.mem_of_getElem? ho2)
              have hap := Hap.out m j y o2 hy ho2 (by omega)
              have hE7 : Ext none1 Wd (wr.alloc (.cells #[.int .i64 o2.b.at_, .int .i64 o2.b.size, .slice (some ⟨o2.g, 0, none⟩) o2.b.size.toNat o2.b.size.toNat] 40)) := hE5.alloc _
              have x0 : (wr.alloc (.cells #[.int .i64 o2.b.at_, .int .i64 o2.b.size, .slice (some ⟨o2.g, 0, none⟩) o2.b.size.toNat o2.b.size.toNat] 40)).cell? ⟨bx, 0, none⟩ = some (.int .i64 y.b.at_) := by rw [cell_of (hE7.keep hbd (fun x => x)) 0]; rfl
              have x1 : (wr.alloc (.cells #[.int .i64 o2.b.at_, .int .i64 o2.b.size, .slice (some ⟨o2.g, 0, none⟩) o2.b.size.toNat o2.b.size.toNat] 40)).cell? ⟨bx, 1, none⟩ = some (.int .i64 y.b.size) := by rw [cell_of (hE7.keep hbd (fun x => x)) 1]; rfl
              have hwa : IntKind.i64.wrap (y.b.at_ + y.b.size) = y.b.at_ + y.b.size := by rw [IntKind.wrap_i64]; omega
              have hwb : IntKind.i64.wrap (o2.b.at_ + o2.b.size) = o2.b.at_ + o2.b.size := by rw [IntKind.wrap_i64]; omega
              have HE7 : Hid _ := hE7
              clear hE5 hE6 hE7 hrow
              by_cases ha1 : y.b.at_ < o2.b.at_ + o2.b.size
              · have ha2 : ¬ o2.b.at_ < y.b.at_ + y.b.size := by omega
                go_wp2
                go_roundw
                case rel => exact ⟨j + 1, by omega, by go_num, HE7.out⟩
                case measure => simp [intOf]; omega
              · go_wp2
                go_roundw
                case rel => exact ⟨j + 1, by omega, by go_num, HE7.out⟩
                case measure => simp [intOf]; omega
            · obtain rfl : j = m := by omega
              have HE6 : Hid _ := hEd.trans hE5
              clear hE5 hEd
              go_wp2
              go_roundw
              case rel => exact ⟨j + 1, by omega, by go_num, HE6.out⟩
              case measure => simp [intOf]; omega
        · obtain rfl : m = L.length := by omega
          have HM3 : Hid _ := Mid.keep face HM2.out hE3
          clear hE3 HM2
          go_wp2
          go_roundw
          case rel => exact ⟨k + 1, S, L, by omega, by go_num, HM3.out⟩
          case measure => simp [intOf]; omega
    · obtain rfl : k = N := by omega
      have HEr : Hid _ := hEr
      clear hm hEr HM
      go_wp2
      go_ret
      exact ⟨rfl, HEr.out⟩
end Go.Proofs.YtbagfepdmmfegaaDoor
