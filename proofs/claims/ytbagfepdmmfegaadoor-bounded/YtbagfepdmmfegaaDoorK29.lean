import Derived.Test.YtbagfepdmmfegaaDoorK28
set_option linter.unusedVariables false
set_option linter.unusedSimpArgs false
/- WHAT ALL BLOCKS OF A CLASS ARE CHARGED. -/
namespace Go.Proofs.YtbagfepdmmfegaaDoor
open Go.RowKit

/-- what the first m blocks are charged -/
def chgTo (L : List Hb) (c : Int) (m : Nat) : Int := Ti.width c * (((L.take m).countP (fun y => Ti.small c y.b.key) : Nat) : Int)
theorem chgTo_succ (L : List Hb) (c : Int) (m : Nat) (y : Hb) (hy : L[m]? = some y) : chgTo L c (m + 1) = chgTo L c m + if Ti.small c y.b.key = true then Ti.width c else 0 := by
  unfold chgTo
  rw [List.take_add_one, hy]
  simp only [Option.toList_some, List.countP_append, List.countP_singleton]
  split
  · rw [Int.natCast_add, Int.mul_add]; simp
  · simp
theorem chgTo_all {S : Ti.St} {L : List Hb} (h : Ti.FarmOk S (L.map Hb.b)) (c : Int) : chgTo L c L.length = S.chg c := by
  unfold chgTo Ti.St.chg
  rw [List.take_length, ← h.perm.countP_eq]
  simp only [List.countP_map]
  rfl
theorem chgTo_bd (L : List Hb) (c : Int) (m : Nat) (hl : L.length ≤ 1024) : 0 ≤ chgTo L c m ∧ chgTo L c m ≤ 32768 := by
  unfold chgTo
  have h1 : (L.take m).countP (fun y => Ti.small c y.b.key) ≤ 1024 := Nat.le_trans List.countP_le_length (by rw [List.length_take]; omega)
  rcases Ti.width_slots c with ⟨w, _⟩ | ⟨w, _⟩ | ⟨w, _⟩ <;> rw [w] <;> omega

theorem chg_small (z c : Int) (hc : c = 0 ∨ c = 1 ∨ c = 2) (a : Int) : Ti.small c (a, z) = decide (chgOf z = Ti.width c) := by
  unfold Ti.small Ti.clsOf chgOf Ti.width
  rcases hc with rfl | rfl | rfl <;> (by_cases h1 : z ≤ 8 <;> by_cases h2 : z ≤ 16 <;> by_cases h3 : z ≤ 32 <;> simp [h1, h2, h3] <;> omega)

set_option maxRecDepth 100000 in
set_option maxHeartbeats 8000000 in
theorem charges_any {PA : World → Nat → (Nat → Prop) → Ti.St → Prop} (V : World) (fl : Nat) (foot : Nat → Prop) (S : Ti.St) (L : List Hb) (hA : FarmAt PA V fl (fl + 1) foot S L) (c : Int) (hc : c = 0 ∨ c = 1 ∨ c = 2) :
    Calls Tryd.prog 19 #[.pointer (some ⟨fl, 0, none⟩), .int .i64 c] V fun e V' => e = .returned (.int .i64 (S.chg c)) ∧ V = V' := by
  have hfew := hA.few
  obtain ⟨fp, x, v, hX⟩ := hA.fx
  have hall := chgTo_all hA.ok c
  obtain ⟨pv, capv, rfl, hpv⟩ : ∃ pv capv, v = .slice pv L.length capv ∧ (0 < L.length → ∃ g, pv = some ⟨g, 0, none⟩) := by
    rcases hX.b3.2 with ⟨rfl, e⟩ | ⟨g, cap, cur, rfl, _⟩
    · exact ⟨none, 0, by rw [e], fun h => by omega⟩
    · exact ⟨_, cap, rfl, fun _ => ⟨g, rfl⟩⟩
  have f4 := cell_of hX.b1 4
  simp at f4
  have Hrow : Hid (∀ g, pv = some ⟨g, 0, none⟩ → ∀ (i : Nat) (y : Hb), L[i]? = some y → V.cell? ⟨g, i * 3 + 1, none⟩ = some (.int .i64 y.b.size)) := by
    rintro g rfl i y hy
    have g1 := hX.b3.cells (g := g) rfl _ _ (encB_get L i y hy).2.1
    rwa [addr_add] at g1
  have Hbd : Hid _ := fun m => chgTo_bd L c m hfew
  have Hall : Hid _ := hall
  clear hX hA hall
  have hwc : (8 : Int) * 2 ^ c.toNat = Ti.width c := by rcases hc with rfl | rfl | rfl <;> rfl
  rcases hc with rfl | rfl | rfl
  all_goals
    go_enter Tryd.func19, Tryd.ntmps19
    go_wp2
  · go_loopw [5, 6, 7] (fun t5 t6 _ w' => ∃ m : Nat, m ≤ L.length ∧ t6 = .int .i64 m ∧ t5 = .int .i64 (chgTo L 0 m) ∧ w' = V) (fun _ t6 _ _ => L.length - (intOf t6).toNat)
    case atStart => exact ⟨0, Nat.zero_le _, rfl, by simp [chgTo], rfl⟩
    case round =>
      obtain ⟨m, hml, rfl, rfl, hwr⟩ := hrel
      subst hwr
      by_cases hmlt : m < L.length
      · obtain ⟨g, rfl⟩ := hpv (by omega)
        obtain ⟨y, hy⟩ : ∃ y, L[m]? = some y := ⟨_, List.getElem?_eq_getElem hmlt⟩
        have g1 := Hrow.out g rfl m y hy
        have hmlt' : (m : Int) < (L.length : Int) := by omega
        have hb := Hbd.out m
        have hsu := chgTo_succ L 0 m y hy
        rw [show y.b.key = (y.b.at_, y.b.size) from rfl, chg_small _ 0 (by omega)] at hsu
        by_cases he : chgOf y.b.size = 8
        · have Hsu : Hid (chgTo L 0 (m + 1) = chgTo L 0 m + 8) := by
            show _ = _
            rw [hsu, if_pos (by rw [he]; rfl)]; rfl
          clear hsu
          go_wp2_with fail
          refine (charged_any _ _).mono ?_
          rintro e w' ⟨rfl, rfl⟩
          rw [he]
          go_wp2
          go_roundw
          case rel => exact ⟨m + 1, by omega, by go_num, by rw [Hsu.out], (by first | rfl | trivial)⟩
          case measure => simp [intOf]; omega
        · have Hsu : Hid (chgTo L 0 (m + 1) = chgTo L 0 m) := by
            show _ = _
            rw [hsu, if_neg (by rw [decide_eq_true_eq]; exact he)]; omega
          clear hsu
          go_wp2_with fail
          refine (charged_any _ _).mono ?_
          rintro e w' ⟨rfl, rfl⟩
          generalize chgOf y.b.size = cz at *
          go_wp2
          go_roundw
          case rel => exact ⟨m + 1, by omega, by go_num, by rw [Hsu.out], (by first | rfl | trivial)⟩
          case measure => simp [intOf]; omega
      · obtain rfl : m = L.length := by omega
        go_wp2
        go_ret
        exact ⟨by rw [Hall.out]; rfl, rfl⟩
  · go_loopw [5, 6, 7] (fun t5 t6 _ w' => ∃ m : Nat, m ≤ L.length ∧ t6 = .int .i64 m ∧ t5 = .int .i64 (chgTo L 1 m) ∧ w' = V) (fun _ t6 _ _ => L.length - (intOf t6).toNat)
    case atStart => exact ⟨0, Nat.zero_le _, rfl, by simp [chgTo], rfl⟩
    case round =>
      obtain ⟨m, hml, rfl, rfl, hwr⟩ := hrel
      subst hwr
      by_cases hmlt : m < L.length
      · obtain ⟨g, rfl⟩ := hpv (by omega)
        obtain ⟨y, hy⟩ : ∃ y, L[m]? = some y := ⟨_, List.getElem?_eq_getElem hmlt⟩
        have g1 := Hrow.out g rfl m y hy
        have hmlt' : (m : Int) < (L.length : Int) := by omega
        have hb := Hbd.out m
        have hsu := chgTo_succ L 1 m y hy
        rw [show y.b.key = (y.b.at_, y.b.size) from rfl, chg_small _ 1 (by omega)] at hsu
        by_cases he : chgOf y.b.size = 16
        · have Hsu : Hid (chgTo L 1 (m + 1) = chgTo L 1 m + 16) := by
            show _ = _
            rw [hsu, if_pos (by rw [he]; rfl)]; rfl
          clear hsu
          go_wp2_with fail
          refine (charged_any _ _).mono ?_
          rintro e w' ⟨rfl, rfl⟩
          rw [he]
          go_wp2
          go_roundw
          case rel => exact ⟨m + 1, by omega, by go_num, by rw [Hsu.out], (by first | rfl | trivial)⟩
          case measure => simp [intOf]; omega
        · have Hsu : Hid (chgTo L 1 (m + 1) = chgTo L 1 m) := by
            show _ = _
            rw [hsu, if_neg (by rw [decide_eq_true_eq]; exact he)]; omega
          clear hsu
          go_wp2_with fail
          refine (charged_any _ _).mono ?_
          rintro e w' ⟨rfl, rfl⟩
          generalize chgOf y.b.size = cz at *
          go_wp2
          go_roundw
          case rel => exact ⟨m + 1, by omega, by go_num, by rw [Hsu.out], (by first | rfl | trivial)⟩
          case measure => simp [intOf]; omega
      · obtain rfl : m = L.length := by omega
        go_wp2
        go_ret
        exact ⟨by rw [Hall.out]; rfl, rfl⟩
  · go_loopw [5, 6, 7] (fun t5 t6 _ w' => ∃ m : Nat, m ≤ L.length ∧ t6 = .int .i64 m ∧ t5 = .int .i64 (chgTo L 2 m) ∧ w' = V) (fun _ t6 _ _ => L.length - (intOf t6).toNat)
    case atStart => exact ⟨0, Nat.zero_le _, rfl, by simp [chgTo], rfl⟩
    case round =>
      obtain ⟨m, hml, rfl, rfl, hwr⟩ := hrel
      subst hwr
      by_cases hmlt : m < L.length
      · obtain ⟨g, rfl⟩ := hpv (by omega)
        obtain ⟨y, hy⟩ : ∃ y, L[m]? = some y := ⟨_, List.getElem?_eq_getElem hmlt⟩
        have g1 := Hrow.out g rfl m y hy
        have hmlt' : (m : Int) < (L.length : Int) := by omega
        have hb := Hbd.out m
        have hsu := chgTo_succ L 2 m y hy
        rw [show y.b.key = (y.b.at_, y.b.size) from rfl, chg_small _ 2 (by omega)] at hsu
        by_cases he : chgOf y.b.size = 32
        · have Hsu : Hid (chgTo L 2 (m + 1) = chgTo L 2 m + 32) := by
            show _ = _
            rw [hsu, if_pos (by rw [he]; rfl)]; rfl
          clear hsu
          go_wp2_with fail
          refine (charged_any _ _).mono ?_
          rintro e w' ⟨rfl, rfl⟩
          rw [he]
          go_wp2
          go_roundw
          case rel => exact ⟨m + 1, by omega, by go_num, by rw [Hsu.out], (by first | rfl | trivial)⟩
          case measure => simp [intOf]; omega
        · have Hsu : Hid (chgTo L 2 (m + 1) = chgTo L 2 m) := by
            show _ = _
            rw [hsu, if_neg (by rw [decide_eq_true_eq]; exact he)]; omega
          clear hsu
          go_wp2_with fail
          refine (charged_any _ _).mono ?_
          rintro e w' ⟨rfl, rfl⟩
          generalize chgOf y.b.size = cz at *
          go_wp2
          go_roundw
          case rel => exact ⟨m + 1, by omega, by go_num, by rw [Hsu.out], (by first | rfl | trivial)⟩
          case measure => simp [intOf]; omega
      · obtain rfl : m = L.length := by omega
        go_wp2
        go_ret
        exact ⟨by rw [Hall.out]; rfl, rfl⟩
end Go.Proofs.YtbagfepdmmfegaaDoor

/- BOUNDED. -/
namespace Go.Proofs.YtbagfepdmmfegaaDoor
open Go.RowKit

/-- a farm in the middle of a script, a block of the statement's own beside it -/
def MidB (PA : World → Nat → (Nat → Prop) → Ti.St → Prop) (W V : World) (fl : Nat) (h s : Int) (S : Ti.St) (L : List Hb) (mb : Nat) : Prop :=
  ∃ foot, FarmAt PA V fl (fl + 1) foot S L ∧ Ext none1 W V ∧ (∀ k, foot k → W.heap.size ≤ k) ∧ S.heaps = h ∧ S.slack = s ∧ Ti.LeanOk S ∧ ¬ foot mb ∧ mb < V.heap.size ∧ W.heap.size ≤ mb ∧ 0 < mb
theorem MidB.step {PA : World → Nat → (Nat → Prop) → Ti.St → Prop} {W V : World} {fl : Nat} {h s : Int} {S : Ti.St} {L : List Hb} {mb : Nat} (F : Face PA True) (hm : MidB PA W V fl h s S L mb) (o : O3) (ho : o.ok) :
    Calls Tryd.prog 15 #[.pointer (some ⟨fl, 0, none⟩), .agg #[.int .i64 o.k, .int .i64 o.a, .int .i64 o.b]] V fun e V' => e = .returned (.bool true) ∧ ∃ S' L', MidB PA W V' fl h s S' L' mb ∧ (∀ ob, V.heap[mb]? = some ob → V'.heap[mb]? = some ob) ∧ ∀ c, S'.tot c ≤ S.tot c ∨ S'.tot c ≤ 2 * S'.chg c + 64 * (h * s + 1) := by
  obtain ⟨foot, hA, hE, hf, h1, h3, h4, h5, h6, h7⟩ := hm
  have hlt := hA.flt _ hA.ffl
  refine (step_any F trivial V fl (fl + 1) foot S L hA (by omega) o.k o.a o.b ho.1 ho.2.1 ho.2.2.1 ho.2.2.2).mono ?_
  rintro e V' ⟨rfl, foot', S', L', q1, q2, q3, q4, q5, q6, q7, q8⟩
  have hE' : Ext none1 W V' := hE.trans' q2 (fun k hk hk' => by have := hf k hk'; omega)
  refine ⟨rfl, S', L', ⟨foot', q1, hE', fun k hk => ?_, q4.trans h1, q5.trans h3, q7 h4, fun hh => ?_, by have := q2.size; omega, h7⟩, fun ob hob => q2.keep hob h5, ?_⟩
  · rcases q3 k hk with q | q
    · exact hf k q
    · have := hE.size; omega
  · rcases q3 _ hh with q | q
    · exact h5 q
    · omega
  · rw [← h1, ← h3]; exact q8 h4
theorem MidB.keep {PA : World → Nat → (Nat → Prop) → Ti.St → Prop} {W V V' : World} {fl : Nat} {h s : Int} {S : Ti.St} {L : List Hb} {mb : Nat} {big : Prop} (F : Face PA big) (hm : MidB PA W V fl h s S L mb) (hE : Ext (one mb) V V') : MidB PA W V' fl h s S L mb := by
  obtain ⟨foot, hA, hE0, hf, h1, h3, h4, h5, h6, h7⟩ := hm
  refine ⟨foot, hA.keep F hE (fun k hk e => h5 (by rw [← show k = mb from e]; exact hk)) (fun e => by have e : 0 = mb := e; omega), hE0.trans' hE (fun j hj e => by have e : j = mb := e; omega), hf, h1, h3, h4, h5, by have := hE.size; omega, h7⟩
theorem Mid.b {PA : World → Nat → (Nat → Prop) → Ti.St → Prop} {W V : World} {fl : Nat} {h n s : Int} {S : Ti.St} {L : List Hb} {big : Prop} (F : Face PA big) (hm : Mid PA W V fl h n s S L) (hw : 0 < W.heap.size) (ob : Obj) : MidB PA W (V.alloc ob) fl h s S L V.heap.size := by
  obtain ⟨foot, hA, hE, hf, hfl, h1, h2, h3, h4⟩ := hm
  have := hE.size
  exact ⟨foot, hA.keep F ((Ext.refl none1 _).alloc ob) (fun _ _ x => x) (fun x => x), hE.alloc _, hf, h1, h3, h4, fun hh => by have := hA.flt _ hh; omega, by simp, hE.size, by omega⟩
theorem Ext.cell0 {w w' : World} (h : Ext none1 w w') (b o : Nat) (hb : b < w.heap.size) : w'.cell? ⟨b, o, none⟩ = w.cell? ⟨b, o, none⟩ := World.cell?_of_block (h.block b hb (fun x => x))
theorem mk3 : ∀ w : World, (Instr.makeSlice 38 (.int .i64 3) (.int .i64 3)).run Tryd.prog w = .ok (.slice (some ⟨w.heap.size, 0, none⟩) 3 3) (w.alloc (.cells #[.int .i64 0, .int .i64 0, .int .i64 0] 3)) := fun w => by
  have := mkBy 2 (by omega) w
  simpa [Array.replicate_succ] using this

set_option maxRecDepth 100000 in
set_option maxHeartbeats 8000000 in
theorem bounded_any (W : World) (hG : GlobAt W) (h n s : Int)
    (h0 : -9223372036854775808 ≤ h) (h1 : h ≤ 9223372036854775807) (n0 : -9223372036854775808 ≤ n) (n1 : n ≤ 9223372036854775807) (s0 : -9223372036854775808 ≤ s) (s1 : s ≤ 9223372036854775807)
    (sv : Value) (ops : List O3) (hs : S3At W sv ops) (hlen : ops.length ≤ 5864062014806) (hok : ∀ o ∈ ops, o.ok) :
    Calls Tryd.prog 7 #[.agg #[.int .i64 h, .int .i64 n, .int .i64 s], sv] W fun e W' => e = .returned (.bool true) ∧ Ext none1 W W' := by
  obtain ⟨pa, cap, rfl, hcells⟩ := hs.shape
  obtain ⟨N, hN⟩ : ∃ N, ops.length = N := ⟨_, rfl⟩
  have HC : Hid _ := hcells
  have HO : Hid _ := hok
  have HN : Hid (ops.length = N) := hN
  rw [hN] at hlen ⊢
  clear hs hcells hok hN
  have hE0 : Ext none1 W (W.alloc (.cells #[.int .i64 h, .int .i64 n, .int .i64 s] 26)) := (Ext.refl _ _).alloc _
  have Hop : Hid _ := Mid.opened face _ (hG.keep hE0 (fun x => x)) h n s h0 h1 n0 n1 s0 s1
  obtain ⟨W0, HW0⟩ : ∃ W0, Hid (W.alloc (.cells #[.int .i64 h, .int .i64 n, .int .i64 s] 26) = W0) := ⟨_, rfl⟩
  rw [HW0.out] at hE0
  have HE0 : Hid _ := hE0
  have hw0 : 0 < W0.heap.size := Nat.lt_of_lt_of_le (let ⟨_, h⟩ := hG; h.2) hE0.size
  clear hE0 hG
  go_enter Tryd.func7, Tryd.ntmps7
  go_wp2_with fail
  refine Calls.mono Hop.out ?_
  clear Hop
  rw [HW0.out]
  clear HW0
  rintro e W1 ⟨fl, rfl, hE1, hm⟩
  have HM : Hid _ := Mid.b face hm hw0 (.cells #[.int .i64 0, .int .i64 0, .int .i64 0] 3)
  have Hmb : Hid _ := heap_alloc_new W1 (.cells #[.int .i64 0, .int .i64 0, .int .i64 0] 3)
  have hmk := mk3
  have ph := pickI_bd h 4 (by omega)
  have ps := pickI_bd s 4 (by omega)
  obtain ⟨HH, hHH⟩ : ∃ HH, 1 + pickI h 4 = HH := ⟨_, rfl⟩
  obtain ⟨SS, hSS⟩ : ∃ SS, 1 + pickI s 4 = SS := ⟨_, rfl⟩
  rw [hHH, hSS] at HM
  have hb1 : 1 ≤ HH ∧ HH ≤ 4 := by omega
  have hb2 : 1 ≤ SS ∧ SS ≤ 4 := by omega
  have pn := pickI_bd n 16 (by omega)
  have HB0 : Hid (∀ c, (Ti.newSt (1 + pickI h 4) (1 + pickI n 16) (1 + pickI s 4)).tot c ≤ 2 * 0 + 64 * (HH * SS + 1)) := by
    have := Ti.bnd_new (1 + pickI h 4) (1 + pickI s 4) (1 + pickI n 16).toNat (fun _ => 0) (fun _ => Int.le_refl _) (by omega) (by omega)
    rw [Int.toNat_of_nonneg (by omega)] at this
    rw [← hHH, ← hSS]
    exact this
  clear hm hE1 hHH hSS ph ps
  go_wp2
  obtain ⟨mb, hmb⟩ : ∃ mb, mb = W1.heap.size := ⟨_, rfl⟩
  rw [← hmb] at HM Hmb ⊢
  clear hmb
  go_loopw [7, 8, 9, 10, 11, 12, 13, 14] (fun i _ _ _ _ _ _ _ wr => ∃ (k : Nat) (S : Ti.St) (L : List Hb) (m0 m1 m2 : Int), k ≤ N ∧ i = .int .i64 k ∧ MidB PrIs W0 wr fl HH SS S L mb ∧ wr.heap[mb]? = some (.cells #[.int .i64 m0, .int .i64 m1, .int .i64 m2] 3 (0, 0)) ∧ (0 ≤ m0 ∧ m0 ≤ 32768 ∧ 0 ≤ m1 ∧ m1 ≤ 32768 ∧ 0 ≤ m2 ∧ m2 ≤ 32768) ∧ S.tot 0 ≤ 2 * m0 + 64 * (HH * SS + 1) ∧ S.tot 1 ≤ 2 * m1 + 64 * (HH * SS + 1) ∧ S.tot 2 ≤ 2 * m2 + 64 * (HH * SS + 1))
    (fun i _ _ _ _ _ _ _ _ => N - (intOf i).toNat)
  case atStart => exact ⟨0, _, _, 0, 0, 0, Nat.zero_le _, rfl, HM.out, Hmb.out, by omega, HB0.out 0, HB0.out 1, HB0.out 2⟩
  case round =>
    obtain ⟨k, S0, L0, m0, m1, m2, hk, rfl, hm, hmc, hmb0, ht0, ht1, ht2⟩ := hrel
    have hEr : Ext none1 W wr := HE0.out.trans (let ⟨_, _, e, _⟩ := hm; e)
    by_cases hlt : k < N
    · obtain ⟨o, ho⟩ : ∃ o, ops[k]? = some o := ⟨_, List.getElem?_eq_getElem (by rw [HN.out]; exact hlt)⟩
      have hook := HO.out o (List.mem_of_getElem? ho)
      obtain ⟨ad, rfl, hadl, q0, q1, q2⟩ := HC.out k o ho
      have hcw : ∀ j, wr.cell? (ad.add j) = W.cell? (ad.add j) := fun j => World.cell?_of_block (hEr.block _ (by rw [add_block]; exact hadl) (fun x => x))
      rw [← hcw] at q0 q1 q2
      rw [← cell_add _ _ _ _ (by omega)] at q1 q2
      have hlt' : (k : Int) < (N : Int) := by omega
      have Hst : Hid _ := MidB.step face hm o hook
      have Hmc : Hid _ := hmc
      clear hm HM Hmb hcw hmc hmk
      go_wp2_with fail
      refine Calls.mono Hst.out ?_
      clear Hst q0 q1 q2
      rintro e V ⟨rfl, S, L, hm, hkm, htt⟩
      have hmv := hkm _ Hmc.out
      have HMV : Hid _ := hm
      have Hmv : Hid _ := hmv
      have hok2 : Ti.FarmOk S (L.map Hb.b) := let ⟨_, hA, _⟩ := hm; hA.ok
      have hfew : L.length ≤ 1024 := let ⟨_, hA, _⟩ := hm; hA.few
      have hheq : S.heaps = HH := let ⟨_, _, _, _, e, _⟩ := hm; e
      have hseq : S.slack = SS := let ⟨_, _, _, _, _, e, _⟩ := hm; e
      have hcb : ∀ c, 0 ≤ S.chg c ∧ S.chg c ≤ 32768 := fun c => by rw [← chgTo_all hok2 c]; exact chgTo_bd L c _ hfew
      have hI := hok2.inv
      have htot : ∀ c, Ti.sumTo (fun h => S.held h c) (S.heaps.toNat + 1) = S.tot c := fun c => Ti.held_all S hI.toInv0 c
      have hhb : ∀ c (j : Nat), 0 ≤ Ti.sumTo (fun h => S.held h c) j ∧ Ti.sumTo (fun h => S.held h c) j ≤ 1024 * (j : Int) := fun c j => by
        induction j with
        | zero => simp [Ti.sumTo]
        | succ j ih =>
          have := stats_bd S (Bd.of S hI.toInv0) j c
          simp only [Ti.sumTo]
          omega
      have Htt : Hid (∀ c m a, S0.tot c ≤ 2 * m + 64 * (HH * SS + 1) → m ≤ a → S.chg c ≤ a → S.tot c ≤ 2 * a + 64 * (HH * SS + 1)) := fun c m a h1 h2 h3 => by
        rcases htt c with q | q <;> omega
      clear hm hmv hkm htt Hmc
      go_wp2
      go_loopw [9, 10, 11, 12, 13, 14] (fun t _ _ _ _ _ w3 => ∃ (cc : Nat) (a0 a1 a2 : Int), cc ≤ 3 ∧ t = .int .i64 cc ∧ MidB PrIs W0 w3 fl HH SS S L mb ∧ w3.heap[mb]? = some (.cells #[.int .i64 a0, .int .i64 a1, .int .i64 a2] 3 (0, 0)) ∧ (m0 ≤ a0 ∧ a0 ≤ 32768 ∧ m1 ≤ a1 ∧ a1 ≤ 32768 ∧ m2 ≤ a2 ∧ a2 ≤ 32768) ∧ (0 < cc → S.chg 0 ≤ a0) ∧ (1 < cc → S.chg 1 ≤ a1) ∧ (2 < cc → S.chg 2 ≤ a2))
        (fun t _ _ _ _ _ _ => 3 - (intOf t).toNat)
      case atStart => exact ⟨0, m0, m1, m2, by omega, rfl, HMV.out, Hmv.out, by omega, by omega, by omega, by omega⟩
      case round =>
        obtain ⟨cc, a0, a1, a2, hcc, rfl, hm, hmc, hab, hc0, hc1, hc2⟩ := hrel
        by_cases hc3 : cc < 3
        · rcases (by omega : cc = 0 ∨ cc = 1 ∨ cc = 2) with rfl | rfl | rfl
          · have HM1 : Hid _ := hm
            obtain ⟨foot, hA, _⟩ := hm
            have Hch : Hid _ := charges_any wr fl foot S L hA 0 (by omega)
            have hcbC := hcb 0
            have ac := cell_of hmc 0
            have af := frozen_of hmc 0
            simp at ac
            clear hA
            go_wp2_with fail
            refine Calls.mono Hch.out ?_
            clear Hch
            rintro e w' ⟨rfl, rfl⟩
            by_cases hgt : a0 < S.chg 0
            · have hE4 : Ext (one mb) wr (wr.setCell ⟨mb, 0, none⟩ (.int .i64 (S.chg 0))) := (Ext.refl (one mb) wr).setCell ⟨mb, 0, none⟩ (.inl rfl) _
              have hmc4 := heap_set hmc 0 (.int .i64 (S.chg 0))
              have hm4 := MidB.keep face HM1.out hE4
              clear hmc HM1 hE4
              go_wp2
              generalize wr.setCell ⟨mb, 0, none⟩ (.int .i64 (S.chg 0)) = w4 at *
              have hmc4 : w4.heap[mb]? = some (.cells #[.int .i64 (S.chg 0), .int .i64 a1, .int .i64 a2] 3 (0, 0)) := hmc4
              have HMr : Hid _ := hm4
              have Hmcr : Hid _ := hmc4
              obtain ⟨foot4, hA4, _⟩ := hm4
              obtain ⟨fp, x, v, hX⟩ := hA4.fx
              have hlf := lt_of_heap hX.b1
              have hml := lt_of_heap hmc4
              have f0 := cell_of hX.b1 0
              have f1 := cell_of hX.b1 1
              have f3 := cell_of hX.b1 3
              have mc := cell_of hmc4 0
              simp at f0 f1 f3 mc
              have Hb2 : Hid _ := hX.b2
              have Hle : Hid (S.tot 0 ≤ 2 * S.chg 0 + 64 * (HH * SS + 1)) := Htt.out 0 m0 (S.chg 0) ht0 (by omega) (by omega)
              clear hX hA4 hmc4
              go_loopw [11, 12, 13, 14] (fun t1 t2 _ _ w5 => ∃ hh : Nat, (hh : Int) ≤ HH + 1 ∧ t1 = .int .i64 (Ti.sumTo (fun h => S.held h 0) hh) ∧ t2 = .int .i64 hh ∧ Ext none1 w4 w5) (fun _ t2 _ _ _ => (HH + 1).toNat - (intOf t2).toNat)
              case atStart => exact ⟨0, by omega, rfl, rfl, Ext.refl _ _⟩
              case round =>
                obtain ⟨hh, hhl, rfl, rfl, hE5⟩ := hrel
                have f1w := (Ext.cell0 hE5 fl 1 hlf).trans f1
                have f0w := (Ext.cell0 hE5 fl 0 hlf).trans f0
                have hsb := hhb 0 hh
                by_cases hhlt : (hh : Int) ≤ HH
                · have hso := stats_ok S hh 0 (by omega) (by omega) (by omega) (by omega)
                  have hdb := stats_bd S (Bd.of S hI.toInv0) hh 0
                  have Hst : Hid _ := face.stats wr x fp S hh 0 (face.keep Hb2.out hE5 (fun _ _ x => x) (fun x => x)) hI
                  rw [hso] at Hst
                  have HE5 : Hid _ := hE5
                  have hwr : IntKind.i64.wrap (Ti.sumTo (fun h => S.held h 0) hh + S.held hh 0) = Ti.sumTo (fun h => S.held h 0) hh + S.held hh 0 := by rw [IntKind.wrap_i64]; omega
                  clear hE5 hso
                  go_wp2_with fail
                  refine Calls.mono Hst.out ?_
                  clear Hst
                  rintro e w6 ⟨rfl, hE6⟩
                  have HE6 : Hid _ := (HE5.out.trans hE6).alloc (.cells #[.int .i64 (S.held hh 0), .int .i64 (S.charged hh 0)] 44)
                  clear hE6
                  go_wp2
                  go_roundw
                  case rel => exact ⟨hh + 1, by omega, by first | rfl | (simp [Ti.sumTo]; done) | (rw [show Ti.sumTo (fun h => S.held h 0) (hh + 1) = Ti.sumTo (fun h => S.held h 0) hh + S.held hh 0 from rfl]; try rw [hwr]), by go_num, HE6.out⟩
                  case measure => simp [intOf]; omega
                · have hhe : hh = S.heaps.toNat + 1 := by omega
                  have hsum : Ti.sumTo (fun h => S.held h 0) hh = S.tot 0 := by rw [hhe]; exact htot 0
                  rw [hsum] at hsb ⊢
                  have mcw := (Ext.cell0 hE5 mb 0 hml).trans mc
                  have f3w := (Ext.cell0 hE5 fl 3 hlf).trans f3
                  have hHS : 1 ≤ HH * SS ∧ HH * SS ≤ 16 := by
                    rcases (by omega : HH = 1 ∨ HH = 2 ∨ HH = 3 ∨ HH = 4) with e | e | e | e <;> rw [e] <;> omega
                  have hle := Hle.out
                  have hngt : ¬ 2 * (S.chg 0) + 64 * (HH * SS + 1) < S.tot 0 := by omega
                  have hw1 : IntKind.i64.wrap (2 * (S.chg 0)) = 2 * (S.chg 0) := by rw [IntKind.wrap_i64]; omega
                  have hw2 : IntKind.i64.wrap (HH * SS) = HH * SS := by rw [IntKind.wrap_i64]; omega
                  have hw3 : IntKind.i64.wrap (HH * SS + 1) = HH * SS + 1 := by rw [IntKind.wrap_i64]; omega
                  have hw4 : IntKind.i64.wrap (64 * (HH * SS + 1)) = 64 * (HH * SS + 1) := by rw [IntKind.wrap_i64]; omega
                  have hw5 : IntKind.i64.wrap (2 * (S.chg 0) + 64 * (HH * SS + 1)) = 2 * (S.chg 0) + 64 * (HH * SS + 1) := by rw [IntKind.wrap_i64]; omega
                  have hlw1 : fl < wr.heap.size := Nat.lt_of_lt_of_le hlf hE5.size
                  have hlw2 : mb < wr.heap.size := Nat.lt_of_lt_of_le hml hE5.size
                  have k1 : ∀ (w' : World) (o : Nat), Ext none1 wr w' → w'.cell? ⟨fl, o, none⟩ = wr.cell? ⟨fl, o, none⟩ := fun w' o hE => Ext.cell0 hE fl o hlw1
                  have k2 : ∀ (w' : World) (o : Nat), Ext none1 wr w' → w'.cell? ⟨mb, o, none⟩ = wr.cell? ⟨mb, o, none⟩ := fun w' o hE => Ext.cell0 hE mb o hlw2
                  have HMd : Hid _ := MidB.keep face HMr.out (hE5.drew.mono (fun _ _ x => x.elim))
                  have Hmd : Hid _ := hE5.drew.keep Hmcr.out (fun x => x)
                  clear hE5 hle hhe hsum
                  go_wp2_with fail
                  go_region_held3 (fun w' => Ext none1 wr w') (first | assumption | exact (Ext.refl _ _).drew) (fail)
                  clear k1 k2 mcw f3w f1w f0w
                  go_wp2
                  go_roundw
                  case rel => exact ⟨0 + 1, (S.chg 0), a1, a2, by omega, by go_num, HMd.out, Hmd.out, by omega, by omega, by omega, by omega⟩
                  case measure => simp [intOf]
            · have hm4 := HM1.out
              have hmc4 := hmc
              clear hmc
              obtain ⟨w4, hw4⟩ : ∃ w4, w4 = wr := ⟨_, rfl⟩
              rw [← hw4] at hm4 hmc4 ac af ⊢
              clear hw4 HM1
              have HMr : Hid _ := hm4
              have Hmcr : Hid _ := hmc4
              obtain ⟨foot4, hA4, _⟩ := hm4
              obtain ⟨fp, x, v, hX⟩ := hA4.fx
              have hlf := lt_of_heap hX.b1
              have hml := lt_of_heap hmc4
              have f0 := cell_of hX.b1 0
              have f1 := cell_of hX.b1 1
              have f3 := cell_of hX.b1 3
              have mc := cell_of hmc4 0
              simp at f0 f1 f3 mc
              have Hb2 : Hid _ := hX.b2
              have Hle : Hid (S.tot 0 ≤ 2 * a0 + 64 * (HH * SS + 1)) := Htt.out 0 m0 (a0) ht0 (by omega) (by omega)
              clear hX hA4 hmc4
              go_wp2
              go_loopw [11, 12, 13, 14] (fun t1 t2 _ _ w5 => ∃ hh : Nat, (hh : Int) ≤ HH + 1 ∧ t1 = .int .i64 (Ti.sumTo (fun h => S.held h 0) hh) ∧ t2 = .int .i64 hh ∧ Ext none1 w4 w5) (fun _ t2 _ _ _ => (HH + 1).toNat - (intOf t2).toNat)
              case atStart => exact ⟨0, by omega, rfl, rfl, Ext.refl _ _⟩
              case round =>
                obtain ⟨hh, hhl, rfl, rfl, hE5⟩ := hrel
                have f1w := (Ext.cell0 hE5 fl 1 hlf).trans f1
                have f0w := (Ext.cell0 hE5 fl 0 hlf).trans f0
                have hsb := hhb 0 hh
                by_cases hhlt : (hh : Int) ≤ HH
                · have hso := stats_ok S hh 0 (by omega) (by omega) (by omega) (by omega)
                  have hdb := stats_bd S (Bd.of S hI.toInv0) hh 0
                  have Hst : Hid _ := face.stats wr x fp S hh 0 (face.keep Hb2.out hE5 (fun _ _ x => x) (fun x => x)) hI
                  rw [hso] at Hst
                  have HE5 : Hid _ := hE5
                  have hwr : IntKind.i64.wrap (Ti.sumTo (fun h => S.held h 0) hh + S.held hh 0) = Ti.sumTo (fun h => S.held h 0) hh + S.held hh 0 := by rw [IntKind.wrap_i64]; omega
                  clear hE5 hso
                  go_wp2_with fail
                  refine Calls.mono Hst.out ?_
                  clear Hst
                  rintro e w6 ⟨rfl, hE6⟩
                  have HE6 : Hid _ := (HE5.out.trans hE6).alloc (.cells #[.int .i64 (S.held hh 0), .int .i64 (S.charged hh 0)] 44)
                  clear hE6
                  go_wp2
                  go_roundw
                  case rel => exact ⟨hh + 1, by omega, by first | rfl | (simp [Ti.sumTo]; done) | (rw [show Ti.sumTo (fun h => S.held h 0) (hh + 1) = Ti.sumTo (fun h => S.held h 0) hh + S.held hh 0 from rfl]; try rw [hwr]), by go_num, HE6.out⟩
                  case measure => simp [intOf]; omega
                · have hhe : hh = S.heaps.toNat + 1 := by omega
                  have hsum : Ti.sumTo (fun h => S.held h 0) hh = S.tot 0 := by rw [hhe]; exact htot 0
                  rw [hsum] at hsb ⊢
                  have mcw := (Ext.cell0 hE5 mb 0 hml).trans mc
                  have f3w := (Ext.cell0 hE5 fl 3 hlf).trans f3
                  have hHS : 1 ≤ HH * SS ∧ HH * SS ≤ 16 := by
                    rcases (by omega : HH = 1 ∨ HH = 2 ∨ HH = 3 ∨ HH = 4) with e | e | e | e <;> rw [e] <;> omega
                  have hle := Hle.out
                  have hngt : ¬ 2 * (a0) + 64 * (HH * SS + 1) < S.tot 0 := by omega
                  have hw1 : IntKind.i64.wrap (2 * (a0)) = 2 * (a0) := by rw [IntKind.wrap_i64]; omega
                  have hw2 : IntKind.i64.wrap (HH * SS) = HH * SS := by rw [IntKind.wrap_i64]; omega
                  have hw3 : IntKind.i64.wrap (HH * SS + 1) = HH * SS + 1 := by rw [IntKind.wrap_i64]; omega
                  have hw4 : IntKind.i64.wrap (64 * (HH * SS + 1)) = 64 * (HH * SS + 1) := by rw [IntKind.wrap_i64]; omega
                  have hw5 : IntKind.i64.wrap (2 * (a0) + 64 * (HH * SS + 1)) = 2 * (a0) + 64 * (HH * SS + 1) := by rw [IntKind.wrap_i64]; omega
                  have hlw1 : fl < wr.heap.size := Nat.lt_of_lt_of_le hlf hE5.size
                  have hlw2 : mb < wr.heap.size := Nat.lt_of_lt_of_le hml hE5.size
                  have k1 : ∀ (w' : World) (o : Nat), Ext none1 wr w' → w'.cell? ⟨fl, o, none⟩ = wr.cell? ⟨fl, o, none⟩ := fun w' o hE => Ext.cell0 hE fl o hlw1
                  have k2 : ∀ (w' : World) (o : Nat), Ext none1 wr w' → w'.cell? ⟨mb, o, none⟩ = wr.cell? ⟨mb, o, none⟩ := fun w' o hE => Ext.cell0 hE mb o hlw2
                  have HMd : Hid _ := MidB.keep face HMr.out (hE5.drew.mono (fun _ _ x => x.elim))
                  have Hmd : Hid _ := hE5.drew.keep Hmcr.out (fun x => x)
                  clear hE5 hle hhe hsum
                  go_wp2_with fail
                  go_region_held3 (fun w' => Ext none1 wr w') (first | assumption | exact (Ext.refl _ _).drew) (fail)
                  clear k1 k2 mcw f3w f1w f0w
                  go_wp2
                  go_roundw
                  case rel => exact ⟨0 + 1, a0, a1, a2, by omega, by go_num, HMd.out, Hmd.out, by omega, by omega, by omega, by omega⟩
                  case measure => simp [intOf]
          · have HM1 : Hid _ := hm
            obtain ⟨foot, hA, _⟩ := hm
            have Hch : Hid _ := charges_any wr fl foot S L hA 1 (by omega)
            have hcbC := hcb 1
            have ac := cell_of hmc 1
            have af := frozen_of hmc 1
            simp at ac
            clear hA
            go_wp2_with fail
            refine Calls.mono Hch.out ?_
            clear Hch
            rintro e w' ⟨rfl, rfl⟩
            by_cases hgt : a1 < S.chg 1
            · have hE4 : Ext (one mb) wr (wr.setCell ⟨mb, 1, none⟩ (.int .i64 (S.chg 1))) := (Ext.refl (one mb) wr).setCell ⟨mb, 1, none⟩ (.inl rfl) _
              have hmc4 := heap_set hmc 1 (.int .i64 (S.chg 1))
              have hm4 := MidB.keep face HM1.out hE4
              clear hmc HM1 hE4
              go_wp2
              generalize wr.setCell ⟨mb, 1, none⟩ (.int .i64 (S.chg 1)) = w4 at *
              have hmc4 : w4.heap[mb]? = some (.cells #[.int .i64 a0, .int .i64 (S.chg 1), .int .i64 a2] 3 (0, 0)) := hmc4
              have HMr : Hid _ := hm4
              have Hmcr : Hid _ := hmc4
              obtain ⟨foot4, hA4, _⟩ := hm4
              obtain ⟨fp, x, v, hX⟩ := hA4.fx
              have hlf := lt_of_heap hX.b1
              have hml := lt_of_heap hmc4
              have f0 := cell_of hX.b1 0
              have f1 := cell_of hX.b1 1
              have f3 := cell_of hX.b1 3
              have mc := cell_of hmc4 1
              simp at f0 f1 f3 mc
              have Hb2 : Hid _ := hX.b2
              have Hle : Hid (S.tot 1 ≤ 2 * S.chg 1 + 64 * (HH * SS + 1)) := Htt.out 1 m1 (S.chg 1) ht1 (by omega) (by omega)
              clear hX hA4 hmc4
              go_loopw [11, 12, 13, 14] (fun t1 t2 _ _ w5 => ∃ hh : Nat, (hh : Int) ≤ HH + 1 ∧ t1 = .int .i64 (Ti.sumTo (fun h => S.held h 1) hh) ∧ t2 = .int .i64 hh ∧ Ext none1 w4 w5) (fun _ t2 _ _ _ => (HH + 1).toNat - (intOf t2).toNat)
              case atStart => exact ⟨0, by omega, rfl, rfl, Ext.refl _ _⟩
              case round =>
                obtain ⟨hh, hhl, rfl, rfl, hE5⟩ := hrel
                have f1w := (Ext.cell0 hE5 fl 1 hlf).trans f1
                have f0w := (Ext.cell0 hE5 fl 0 hlf).trans f0
                have hsb := hhb 1 hh
                by_cases hhlt : (hh : Int) ≤ HH
                · have hso := stats_ok S hh 1 (by omega) (by omega) (by omega) (by omega)
                  have hdb := stats_bd S (Bd.of S hI.toInv0) hh 1
                  have Hst : Hid _ := face.stats wr x fp S hh 1 (face.keep Hb2.out hE5 (fun _ _ x => x) (fun x => x)) hI
                  rw [hso] at Hst
                  have HE5 : Hid _ := hE5
                  have hwr : IntKind.i64.wrap (Ti.sumTo (fun h => S.held h 1) hh + S.held hh 1) = Ti.sumTo (fun h => S.held h 1) hh + S.held hh 1 := by rw [IntKind.wrap_i64]; omega
                  clear hE5 hso
                  go_wp2_with fail
                  refine Calls.mono Hst.out ?_
                  clear Hst
                  rintro e w6 ⟨rfl, hE6⟩
                  have HE6 : Hid _ := (HE5.out.trans hE6).alloc (.cells #[.int .i64 (S.held hh 1), .int .i64 (S.charged hh 1)] 44)
                  clear hE6
                  go_wp2
                  go_roundw
                  case rel => exact ⟨hh + 1, by omega, by first | rfl | (simp [Ti.sumTo]; done) | (rw [show Ti.sumTo (fun h => S.held h 1) (hh + 1) = Ti.sumTo (fun h => S.held h 1) hh + S.held hh 1 from rfl]; try rw [hwr]), by go_num, HE6.out⟩
                  case measure => simp [intOf]; omega
                · have hhe : hh = S.heaps.toNat + 1 := by omega
                  have hsum : Ti.sumTo (fun h => S.held h 1) hh = S.tot 1 := by rw [hhe]; exact htot 1
                  rw [hsum] at hsb ⊢
                  have mcw := (Ext.cell0 hE5 mb 1 hml).trans mc
                  have f3w := (Ext.cell0 hE5 fl 3 hlf).trans f3
                  have hHS : 1 ≤ HH * SS ∧ HH * SS ≤ 16 := by
                    rcases (by omega : HH = 1 ∨ HH = 2 ∨ HH = 3 ∨ HH = 4) with e | e | e | e <;> rw [e] <;> omega
                  have hle := Hle.out
                  have hngt : ¬ 2 * (S.chg 1) + 64 * (HH * SS + 1) < S.tot 1 := by omega
                  have hw1 : IntKind.i64.wrap (2 * (S.chg 1)) = 2 * (S.chg 1) := by rw [IntKind.wrap_i64]; omega
                  have hw2 : IntKind.i64.wrap (HH * SS) = HH * SS := by rw [IntKind.wrap_i64]; omega
                  have hw3 : IntKind.i64.wrap (HH * SS + 1) = HH * SS + 1 := by rw [IntKind.wrap_i64]; omega
                  have hw4 : IntKind.i64.wrap (64 * (HH * SS + 1)) = 64 * (HH * SS + 1) := by rw [IntKind.wrap_i64]; omega
                  have hw5 : IntKind.i64.wrap (2 * (S.chg 1) + 64 * (HH * SS + 1)) = 2 * (S.chg 1) + 64 * (HH * SS + 1) := by rw [IntKind.wrap_i64]; omega
                  have hlw1 : fl < wr.heap.size := Nat.lt_of_lt_of_le hlf hE5.size
                  have hlw2 : mb < wr.heap.size := Nat.lt_of_lt_of_le hml hE5.size
                  have k1 : ∀ (w' : World) (o : Nat), Ext none1 wr w' → w'.cell? ⟨fl, o, none⟩ = wr.cell? ⟨fl, o, none⟩ := fun w' o hE => Ext.cell0 hE fl o hlw1
                  have k2 : ∀ (w' : World) (o : Nat), Ext none1 wr w' → w'.cell? ⟨mb, o, none⟩ = wr.cell? ⟨mb, o, none⟩ := fun w' o hE => Ext.cell0 hE mb o hlw2
                  have HMd : Hid _ := MidB.keep face HMr.out (hE5.drew.mono (fun _ _ x => x.elim))
                  have Hmd : Hid _ := hE5.drew.keep Hmcr.out (fun x => x)
                  clear hE5 hle hhe hsum
                  go_wp2_with fail
                  go_region_held3 (fun w' => Ext none1 wr w') (first | assumption | exact (Ext.refl _ _).drew) (fail)
                  clear k1 k2 mcw f3w f1w f0w
                  go_wp2
                  go_roundw
                  case rel => exact ⟨1 + 1, a0, (S.chg 1), a2, by omega, by go_num, HMd.out, Hmd.out, by omega, by omega, by omega, by omega⟩
                  case measure => simp [intOf]
            · have hm4 := HM1.out
              have hmc4 := hmc
              clear hmc
              obtain ⟨w4, hw4⟩ : ∃ w4, w4 = wr := ⟨_, rfl⟩
              rw [← hw4] at hm4 hmc4 ac af ⊢
              clear hw4 HM1
              have HMr : Hid _ := hm4
              have Hmcr : Hid _ := hmc4
              obtain ⟨foot4, hA4, _⟩ := hm4
              obtain ⟨fp, x, v, hX⟩ := hA4.fx
              have hlf := lt_of_heap hX.b1
              have hml := lt_of_heap hmc4
              have f0 := cell_of hX.b1 0
              have f1 := cell_of hX.b1 1
              have f3 := cell_of hX.b1 3
              have mc := cell_of hmc4 1
              simp at f0 f1 f3 mc
              have Hb2 : Hid _ := hX.b2
              have Hle : Hid (S.tot 1 ≤ 2 * a1 + 64 * (HH * SS + 1)) := Htt.out 1 m1 (a1) ht1 (by omega) (by omega)
              clear hX hA4 hmc4
              go_wp2
              go_loopw [11, 12, 13, 14] (fun t1 t2 _ _ w5 => ∃ hh : Nat, (hh : Int) ≤ HH + 1 ∧ t1 = .int .i64 (Ti.sumTo (fun h => S.held h 1) hh) ∧ t2 = .int .i64 hh ∧ Ext none1 w4 w5) (fun _ t2 _ _ _ => (HH + 1).toNat - (intOf t2).toNat)
              case atStart => exact ⟨0, by omega, rfl, rfl, Ext.refl _ _⟩
              case round =>
                obtain ⟨hh, hhl, rfl, rfl, hE5⟩ := hrel
                have f1w := (Ext.cell0 hE5 fl 1 hlf).trans f1
                have f0w := (Ext.cell0 hE5 fl 0 hlf).trans f0
                have hsb := hhb 1 hh
                by_cases hhlt : (hh : Int) ≤ HH
                · have hso := stats_ok S hh 1 (by omega) (by omega) (by omega) (by omega)
                  have hdb := stats_bd S (Bd.of S hI.toInv0) hh 1
                  have Hst : Hid _ := face.stats wr x fp S hh 1 (face.keep Hb2.out hE5 (fun _ _ x => x) (fun x => x)) hI
                  rw [hso] at Hst
                  have HE5 : Hid _ := hE5
                  have hwr : IntKind.i64.wrap (Ti.sumTo (fun h => S.held h 1) hh + S.held hh 1) = Ti.sumTo (fun h => S.held h 1) hh + S.held hh 1 := by rw [IntKind.wrap_i64]; omega
                  clear hE5 hso
                  go_wp2_with fail
                  refine Calls.mono Hst.out ?_
                  clear Hst
                  rintro e w6 ⟨rfl, hE6⟩
                  have HE6 : Hid _ := (HE5.out.trans hE6).alloc (.cells #[.int .i64 (S.held hh 1), .int .i64 (S.charged hh 1)] 44)
                  clear hE6
                  go_wp2
                  go_roundw
                  case rel => exact ⟨hh + 1, by omega, by first | rfl | (simp [Ti.sumTo]; done) | (rw [show Ti.sumTo (fun h => S.held h 1) (hh + 1) = Ti.sumTo (fun h => S.held h 1) hh + S.held hh 1 from rfl]; try rw [hwr]), by go_num, HE6.out⟩
                  case measure => simp [intOf]; omega
                · have hhe : hh = S.heaps.toNat + 1 := by omega
                  have hsum : Ti.sumTo (fun h => S.held h 1) hh = S.tot 1 := by rw [hhe]; exact htot 1
                  rw [hsum] at hsb ⊢
                  have mcw := (Ext.cell0 hE5 mb 1 hml).trans mc
                  have f3w := (Ext.cell0 hE5 fl 3 hlf).trans f3
                  have hHS : 1 ≤ HH * SS ∧ HH * SS ≤ 16 := by
                    rcases (by omega : HH = 1 ∨ HH = 2 ∨ HH = 3 ∨ HH = 4) with e | e | e | e <;> rw [e] <;> omega
                  have hle := Hle.out
                  have hngt : ¬ 2 * (a1) + 64 * (HH * SS + 1) < S.tot 1 := by omega
                  have hw1 : IntKind.i64.wrap (2 * (a1)) = 2 * (a1) := by rw [IntKind.wrap_i64]; omega
                  have hw2 : IntKind.i64.wrap (HH * SS) = HH * SS := by rw [IntKind.wrap_i64]; omega
                  have hw3 : IntKind.i64.wrap (HH * SS + 1) = HH * SS + 1 := by rw [IntKind.wrap_i64]; omega
                  have hw4 : IntKind.i64.wrap (64 * (HH * SS + 1)) = 64 * (HH * SS + 1) := by rw [IntKind.wrap_i64]; omega
                  have hw5 : IntKind.i64.wrap (2 * (a1) + 64 * (HH * SS + 1)) = 2 * (a1) + 64 * (HH * SS + 1) := by rw [IntKind.wrap_i64]; omega
                  have hlw1 : fl < wr.heap.size := Nat.lt_of_lt_of_le hlf hE5.size
                  have hlw2 : mb < wr.heap.size := Nat.lt_of_lt_of_le hml hE5.size
                  have k1 : ∀ (w' : World) (o : Nat), Ext none1 wr w' → w'.cell? ⟨fl, o, none⟩ = wr.cell? ⟨fl, o, none⟩ := fun w' o hE => Ext.cell0 hE fl o hlw1
                  have k2 : ∀ (w' : World) (o : Nat), Ext none1 wr w' → w'.cell? ⟨mb, o, none⟩ = wr.cell? ⟨mb, o, none⟩ := fun w' o hE => Ext.cell0 hE mb o hlw2
                  have HMd : Hid _ := MidB.keep face HMr.out (hE5.drew.mono (fun _ _ x => x.elim))
                  have Hmd : Hid _ := hE5.drew.keep Hmcr.out (fun x => x)
                  clear hE5 hle hhe hsum
                  go_wp2_with fail
                  go_region_held3 (fun w' => Ext none1 wr w') (first | assumption | exact (Ext.refl _ _).drew) (fail)
                  clear k1 k2 mcw f3w f1w f0w
                  go_wp2
                  go_roundw
                  case rel => exact ⟨1 + 1, a0, a1, a2, by omega, by go_num, HMd.out, Hmd.out, by omega, by omega, by omega, by omega⟩
                  case measure => simp [intOf]
          · have HM1 : Hid _ := hm
            obtain ⟨foot, hA, _⟩ := hm
            have Hch : Hid _ := charges_any wr fl foot S L hA 2 (by omega)
            have hcbC := hcb 2
            have ac := cell_of hmc 2
            have af := frozen_of hmc 2
            simp at ac
            clear hA
            go_wp2_with fail
            refine Calls.mono Hch.out ?_
            clear Hch
            rintro e w' ⟨rfl, rfl⟩
            by_cases hgt : a2 < S.chg 2
            · have hE4 : Ext (one mb) wr (wr.setCell ⟨mb, 2, none⟩ (.int .i64 (S.chg 2))) := (Ext.refl (one mb) wr).setCell ⟨mb, 2, none⟩ (.inl rfl) _
              have hmc4 := heap_set hmc 2 (.int .i64 (S.chg 2))
              have hm4 := MidB.keep face HM1.out hE4
              clear hmc HM1 hE4
              go_wp2
              generalize wr.setCell ⟨mb, 2, none⟩ (.int .i64 (S.chg 2)) = w4 at *
              have hmc4 : w4.heap[mb]? = some (.cells #[.int .i64 a0, .int .i64 a1, .int .i64 (S.chg 2)] 3 (0, 0)) := hmc4
              have HMr : Hid _ := hm4
              have Hmcr : Hid _ := hmc4
              obtain ⟨foot4, hA4, _⟩ := hm4
              obtain ⟨fp, x, v, hX⟩ := hA4.fx
              have hlf := lt_of_heap hX.b1
              have hml := lt_of_heap hmc4
              have f0 := cell_of hX.b1 0
              have f1 := cell_of hX.b1 1
              have f3 := cell_of hX.b1 3
              have mc := cell_of hmc4 2
              simp at f0 f1 f3 mc
              have Hb2 : Hid _ := hX.b2
              have Hle : Hid (S.tot 2 ≤ 2 * S.chg 2 + 64 * (HH * SS + 1)) := Htt.out 2 m2 (S.chg 2) ht2 (by omega) (by omega)
              clear hX hA4 hmc4
              go_loopw [11, 12, 13, 14] (fun t1 t2 _ _ w5 => ∃ hh : Nat, (hh : Int) ≤ HH + 1 ∧ t1 = .int .i64 (Ti.sumTo (fun h => S.held h 2) hh) ∧ t2 = .int .i64 hh ∧ Ext none1 w4 w5) (fun _ t2 _ _ _ => (HH + 1).toNat - (intOf t2).toNat)
              case atStart => exact ⟨0, by omega, rfl, rfl, Ext.refl _ _⟩
              case round =>
                obtain ⟨hh, hhl, rfl, rfl, hE5⟩ := hrel
                have f1w := (Ext.cell0 hE5 fl 1 hlf).trans f1
                have f0w := (Ext.cell0 hE5 fl 0 hlf).trans f0
                have hsb := hhb 2 hh
                by_cases hhlt : (hh : Int) ≤ HH
                · have hso := stats_ok S hh 2 (by omega) (by omega) (by omega) (by omega)
                  have hdb := stats_bd S (Bd.of S hI.toInv0) hh 2
                  have Hst : Hid _ := face.stats wr x fp S hh 2 (face.keep Hb2.out hE5 (fun _ _ x => x) (fun x => x)) hI
                  rw [hso] at Hst
                  have HE5 : Hid _ := hE5
                  have hwr : IntKind.i64.wrap (Ti.sumTo (fun h => S.held h 2) hh + S.held hh 2) = Ti.sumTo (fun h => S.held h 2) hh + S.held hh 2 := by rw [IntKind.wrap_i64]; omega
                  clear hE5 hso
                  go_wp2_with fail
                  refine Calls.mono Hst.out ?_
                  clear Hst
                  rintro e w6 ⟨rfl, hE6⟩
                  have HE6 : Hid _ := (HE5.out.trans hE6).alloc (.cells #[.int .i64 (S.held hh 2), .int .i64 (S.charged hh 2)] 44)
                  clear hE6
                  go_wp2
                  go_roundw
                  case rel => exact ⟨hh + 1, by omega, by first | rfl | (simp [Ti.sumTo]; done) | (rw [show Ti.sumTo (fun h => S.held h 2) (hh + 1) = Ti.sumTo (fun h => S.held h 2) hh + S.held hh 2 from rfl]; try rw [hwr]), by go_num, HE6.out⟩
                  case measure => simp [intOf]; omega
                · have hhe : hh = S.heaps.toNat + 1 := by omega
                  have hsum : Ti.sumTo (fun h => S.held h 2) hh = S.tot 2 := by rw [hhe]; exact htot 2
                  rw [hsum] at hsb ⊢
                  have mcw := (Ext.cell0 hE5 mb 2 hml).trans mc
                  have f3w := (Ext.cell0 hE5 fl 3 hlf).trans f3
                  have hHS : 1 ≤ HH * SS ∧ HH * SS ≤ 16 := by
                    rcases (by omega : HH = 1 ∨ HH = 2 ∨ HH = 3 ∨ HH = 4) with e | e | e | e <;> rw [e] <;> omega
                  have hle := Hle.out
                  have hngt : ¬ 2 * (S.chg 2) + 64 * (HH * SS + 1) < S.tot 2 := by omega
                  have hw1 : IntKind.i64.wrap (2 * (S.chg 2)) = 2 * (S.chg 2) := by rw [IntKind.wrap_i64]; omega
                  have hw2 : IntKind.i64.wrap (HH * SS) = HH * SS := by rw [IntKind.wrap_i64]; omega
                  have hw3 : IntKind.i64.wrap (HH * SS + 1) = HH * SS + 1 := by rw [IntKind.wrap_i64]; omega
                  have hw4 : IntKind.i64.wrap (64 * (HH * SS + 1)) = 64 * (HH * SS + 1) := by rw [IntKind.wrap_i64]; omega
                  have hw5 : IntKind.i64.wrap (2 * (S.chg 2) + 64 * (HH * SS + 1)) = 2 * (S.chg 2) + 64 * (HH * SS + 1) := by rw [IntKind.wrap_i64]; omega
                  have hlw1 : fl < wr.heap.size := Nat.lt_of_lt_of_le hlf hE5.size
                  have hlw2 : mb < wr.heap.size := Nat.lt_of_lt_of_le hml hE5.size
                  have k1 : ∀ (w' : World) (o : Nat), Ext none1 wr w' → w'.cell? ⟨fl, o, none⟩ = wr.cell? ⟨fl, o, none⟩ := fun w' o hE => Ext.cell0 hE fl o hlw1
                  have k2 : ∀ (w' : World) (o : Nat), Ext none1 wr w' → w'.cell? ⟨mb, o, none⟩ = wr.cell? ⟨mb, o, none⟩ := fun w' o hE => Ext.cell0 hE mb o hlw2
                  have HMd : Hid _ := MidB.keep face HMr.out (hE5.drew.mono (fun _ _ x => x.elim))
                  have Hmd : Hid _ := hE5.drew.keep Hmcr.out (fun x => x)
                  clear hE5 hle hhe hsum
                  go_wp2_with fail
                  go_region_held3 (fun w' => Ext none1 wr w') (first | assumption | exact (Ext.refl _ _).drew) (fail)
                  clear k1 k2 mcw f3w f1w f0w
                  go_wp2
                  go_roundw
                  case rel => exact ⟨2 + 1, a0, a1, (S.chg 2), by omega, by go_num, HMd.out, Hmd.out, by omega, by omega, by omega, by omega⟩
                  case measure => simp [intOf]
            · have hm4 := HM1.out
              have hmc4 := hmc
              clear hmc
              obtain ⟨w4, hw4⟩ : ∃ w4, w4 = wr := ⟨_, rfl⟩
              rw [← hw4] at hm4 hmc4 ac af ⊢
              clear hw4 HM1
              have HMr : Hid _ := hm4
              have Hmcr : Hid _ := hmc4
              obtain ⟨foot4, hA4, _⟩ := hm4
              obtain ⟨fp, x, v, hX⟩ := hA4.fx
              have hlf := lt_of_heap hX.b1
              have hml := lt_of_heap hmc4
              have f0 := cell_of hX.b1 0
              have f1 := cell_of hX.b1 1
              have f3 := cell_of hX.b1 3
              have mc := cell_of hmc4 2
              simp at f0 f1 f3 mc
              have Hb2 : Hid _ := hX.b2
              have Hle : Hid (S.tot 2 ≤ 2 * a2 + 64 * (HH * SS + 1)) := Htt.out 2 m2 (a2) ht2 (by omega) (by omega)
              clear hX hA4 hmc4
              go_wp2
              go_loopw [11, 12, 13, 14] (fun t1 t2 _ _ w5 => ∃ hh : Nat, (hh : Int) ≤ HH + 1 ∧ t1 = .int .i64 (Ti.sumTo (fun h => S.held h 2) hh) ∧ t2 = .int .i64 hh ∧ Ext none1 w4 w5) (fun _ t2 _ _ _ => (HH + 1).toNat - (intOf t2).toNat)
              case atStart => exact ⟨0, by omega, rfl, rfl, Ext.refl _ _⟩
              case round =>
                obtain ⟨hh, hhl, rfl, rfl, hE5⟩ := hrel
                have f1w := (Ext.cell0 hE5 fl 1 hlf).trans f1
                have f0w := (Ext.cell0 hE5 fl 0 hlf).trans f0
                have hsb := hhb 2 hh
                by_cases hhlt : (hh : Int) ≤ HH
                · have hso := stats_ok S hh 2 (by omega) (by omega) (by omega) (by omega)
                  have hdb := stats_bd S (Bd.of S hI.toInv0) hh 2
                  have Hst : Hid _ := face.stats wr x fp S hh 2 (face.keep Hb2.out hE5 (fun _ _ x => x) (fun x => x)) hI
                  rw [hso] at Hst
                  have HE5 : Hid _ := hE5
                  have hwr : IntKind.i64.wrap (Ti.sumTo (fun h => S.held h 2) hh + S.held hh 2) = Ti.sumTo (fun h => S.held h 2) hh + S.held hh 2 := by rw [IntKind.wrap_i64]; omega
                  clear hE5 hso
                  go_wp2_with fail
                  refine Calls.mono Hst.out ?_
                  clear Hst
                  rintro e w6 ⟨rfl, hE6⟩
                  have HE6 : Hid _ := (HE5.out.trans hE6).alloc (.cells #[.int .i64 (S.held hh 2), .int .i64 (S.charged hh 2)] 44)
                  clear hE6
                  go_wp2
                  go_roundw
                  case rel => exact ⟨hh + 1, by omega, by first | rfl | (simp [Ti.sumTo]; done) | (rw [show Ti.sumTo (fun h => S.held h 2) (hh + 1) = Ti.sumTo (fun h => S.held h 2) hh + S.held hh 2 from rfl]; try rw [hwr]), by go_num, HE6.out⟩
                  case measure => simp [intOf]; omega
                · have hhe : hh = S.heaps.toNat + 1 := by omega
                  have hsum : Ti.sumTo (fun h => S.held h 2) hh = S.tot 2 := by rw [hhe]; exact htot 2
                  rw [hsum] at hsb ⊢
                  have mcw := (Ext.cell0 hE5 mb 2 hml).trans mc
                  have f3w := (Ext.cell0 hE5 fl 3 hlf).trans f3
                  have hHS : 1 ≤ HH * SS ∧ HH * SS ≤ 16 := by
                    rcases (by omega : HH = 1 ∨ HH = 2 ∨ HH = 3 ∨ HH = 4) with e | e | e | e <;> rw [e] <;> omega
                  have hle := Hle.out
                  have hngt : ¬ 2 * (a2) + 64 * (HH * SS + 1) < S.tot 2 := by omega
                  have hw1 : IntKind.i64.wrap (2 * (a2)) = 2 * (a2) := by rw [IntKind.wrap_i64]; omega
                  have hw2 : IntKind.i64.wrap (HH * SS) = HH * SS := by rw [IntKind.wrap_i64]; omega
                  have hw3 : IntKind.i64.wrap (HH * SS + 1) = HH * SS + 1 := by rw [IntKind.wrap_i64]; omega
                  have hw4 : IntKind.i64.wrap (64 * (HH * SS + 1)) = 64 * (HH * SS + 1) := by rw [IntKind.wrap_i64]; omega
                  have hw5 : IntKind.i64.wrap (2 * (a2) + 64 * (HH * SS + 1)) = 2 * (a2) + 64 * (HH * SS + 1) := by rw [IntKind.wrap_i64]; omega
                  have hlw1 : fl < wr.heap.size := Nat.lt_of_lt_of_le hlf hE5.size
                  have hlw2 : mb < wr.heap.size := Nat.lt_of_lt_of_le hml hE5.size
                  have k1 : ∀ (w' : World) (o : Nat), Ext none1 wr w' → w'.cell? ⟨fl, o, none⟩ = wr.cell? ⟨fl, o, none⟩ := fun w' o hE => Ext.cell0 hE fl o hlw1
                  have k2 : ∀ (w' : World) (o : Nat), Ext none1 wr w' → w'.cell? ⟨mb, o, none⟩ = wr.cell? ⟨mb, o, none⟩ := fun w' o hE => Ext.cell0 hE mb o hlw2
                  have HMd : Hid _ := MidB.keep face HMr.out (hE5.drew.mono (fun _ _ x => x.elim))
                  have Hmd : Hid _ := hE5.drew.keep Hmcr.out (fun x => x)
                  clear hE5 hle hhe hsum
                  go_wp2_with fail
                  go_region_held3 (fun w' => Ext none1 wr w') (first | assumption | exact (Ext.refl _ _).drew) (fail)
                  clear k1 k2 mcw f3w f1w f0w
                  go_wp2
                  go_roundw
                  case rel => exact ⟨2 + 1, a0, a1, a2, by omega, by go_num, HMd.out, Hmd.out, by omega, by omega, by omega, by omega⟩
                  case measure => simp [intOf]
        · obtain rfl : cc = 3 := by omega
          have HMr : Hid _ := hm
          have Hmcr : Hid _ := hmc
          clear hm hmc HMV Hmv
          go_wp2
          go_roundw
          case rel => exact ⟨k + 1, S, L, a0, a1, a2, by omega, by go_num, HMr.out, Hmcr.out, by omega, Htt.out 0 m0 a0 ht0 hab.1 (hc0 (by omega)), Htt.out 1 m1 a1 ht1 hab.2.2.1 (hc1 (by omega)), Htt.out 2 m2 a2 ht2 hab.2.2.2.2.1 (hc2 (by omega))⟩
          case measure => simp [intOf]; omega
    · obtain rfl : k = N := by omega
      have HEr : Hid _ := hEr
      clear hm hmc hEr HM Hmb hmk
      go_wp2
      go_ret
      exact ⟨rfl, HEr.out⟩
end Go.Proofs.YtbagfepdmmfegaaDoor
