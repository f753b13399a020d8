import Derived.Test.YtbagfepdmmfegaaDoorK28
set_option linter.unusedVariables false
set_option linter.unusedSimpArgs false
/- WHAT ALL BLOCKS OF A CLASS ARE CHARGED. -/
namespace Go.Proofs.YtbagfepdmmfegaaDoor
open Go.RowKit

/-- what the first m blocks are charged -/
def chgTo (L : List Hb) (c : Int) (m : Nat) : Int := Ti.width c * (((L.take m).countP (fun y => Ti.small c y.b.key) : Nat) : Int)
theorem chgTo_succ (L : List Hb) (c : Int) (m : Nat) (y : Hb) (hy : L[m]? = some y) : chgTo L c (m + 1) = chgTo L c m + if Ti.small c y.b.key = true then Ti.width c else 0 := by
  unfold chgTo
  rw [List.take_add_one, hy]
  simp only [Option.toList_some, List.countP_append, List.countP_singleton]
  split
  · rw [Int.natCast_add, Int.mul_add]; simp
  · simp
theorem chgTo_all {S : Ti.St} {L : List Hb} (h : Ti.FarmOk S (L.map Hb.b)) (c : Int) : chgTo L c L.length = S.chg c := by
  unfold chgTo Ti.St.chg
  rw [List.take_length, ← h.perm.countP_eq]
  simp only [List.countP_map]
  rfl
theorem chgTo_bd (L : List Hb) (c : Int) (m : Nat) (hl : L.length ≤ 1024) : 0 ≤ chgTo L c m ∧ chgTo L c m ≤ 32768 := by
  unfold chgTo
  have h1 : (L.take m).countP (fun y => Ti.small c y.b.key) ≤ 1024 := Nat.le_trans List.countP_le_length (by rw [List.length_take]; omega)
  rcases Ti.width_slots c with ⟨w, _⟩ | ⟨w, _⟩ | ⟨w, _⟩ <;> rw [w] <;> omega

theorem chg_small (z c : Int) (hc : c = 0 ∨ c = 1 ∨ c = 2) (a : Int) : Ti.small c (a, z) = decide (chgOf z = Ti.width c) := by
  unfold Ti.small Ti.clsOf chgOf Ti.width
  rcases hc with rfl | rfl | rfl <;> (by_cases h1 : z ≤ 8 <;> by_cases h2 : z ≤ 16 <;> by_cases h3 : z ≤ 32 <;> simp [h1, h2, h3] <;> omega)

set_option maxRecDepth 100000 in
set_option maxHeartbeats 8000000 in
theorem charges_any {PA : World → Nat → (Nat → Prop) → Ti.St → Prop} (V : World) (fl : Nat) (foot : Nat → Prop) (S : Ti.St) (L : List Hb) (hA : FarmAt PA V fl (fl + 1) foot S L) (c : Int) (hc : c = 0 ∨ c = 1 ∨ c = 2) :
    Calls Tryd.prog 19 #[.pointer (some ⟨fl, 0, none⟩), .int .i64 c] V fun e V' => e = .returned (.int .i64 (S.chg c)) ∧ V = V' := by
  have hfew := hA.few
  obtain ⟨fp, x, v, hX⟩ := hA.fx
  have hall := chgTo_all hA.ok c
  obtain ⟨pv, capv, rfl, hpv⟩ : ∃ pv capv, v = .slice pv L.length capv ∧ (0 < L.length → ∃ g, pv = some ⟨g, 0, none⟩) := by
    rcases hX.b3.2 with ⟨rfl, e⟩ | ⟨g, cap, cur, rfl, _⟩
    · exact ⟨none, 0, by rw [e], fun h => by omega⟩
    · exact ⟨_, cap, rfl, fun _ => ⟨g, rfl⟩⟩
  have f4 := cell_of hX.b1 4
  simp at f4
  have Hrow : Hid (∀ g, pv = some ⟨g, 0, none⟩ → ∀ (i : Nat) (y : Hb), L[i]? = some y → V.cell? ⟨g, i * 3 + 1, none⟩ = some (.int .i64 y.b.size)) := by
    rintro g rfl i y hy
    have g1 := hX.b3.cells (g := g) rfl _ _ (encB_get L i y hy).2.1
    rwa [addr_add] at g1
  have Hbd : Hid _ := fun m => chgTo_bd L c m hfew
  have Hall : Hid _ := hall
  clear hX hA hall
  have hwc : (8 : Int) * 2 ^ c.toNat = Ti.width c := by rcases hc with rfl | rfl | rfl <;> rfl
  rcases hc with rfl | rfl | rfl
  all_goals
    go_enter Tryd.func19, Tryd.ntmps19
    go_wp2
  · go_loopw [5, 6, 7] (fun t5 t6 _ w' => ∃ m : Nat, m ≤ L.length ∧ t6 = .int .i64 m ∧ t5 = .int .i64 (chgTo L 0 m) ∧ w' = V) (fun _ t6 _ _ => L.length - (intOf t6).toNat)
    case atStart => exact ⟨0, Nat.zero_le _, rfl, by simp [chgTo], rfl⟩
    case round =>
      obtain ⟨m, hml, rfl, rfl, hwr⟩ := hrel
      subst hwr
      by_cases hmlt : m < L.length
      · obtain ⟨g, rfl⟩ := hpv (by omega)
        obtain ⟨y, hy⟩ : ∃ y, L[m]? = some y := ⟨_, List.getElem?_eq_getElem hmlt⟩
        have g1 := Hrow.out g rfl m y hy
        have hmlt' : (m : Int) < (L.length : Int) := by omega
        have hb := Hbd.out m
        have hsu := chgTo_succ L 0 m y hy
        rw [show y.b.key = (y.b.at_, y.b.size) from rfl, chg_small _ 0 (by omega)] at hsu
        by_cases he : chgOf y.b.size = 8
        · have Hsu : Hid (chgTo L 0 (m + 1) = chgTo L 0 m + 8) := by
            show _ = _
            rw [hsu, if_pos (by rw [he]; rfl)]; rfl
          clear hsu
          go_wp2_with fail
          refine (charged_any _ _).mono ?_
          rintro e w' ⟨rfl, rfl⟩
          rw [he]
          go_wp2
          go_roundw
          case rel => exact ⟨m + 1, by omega, by go_num, by rw [Hsu.out], (by first | rfl | trivial)⟩
          case measure => simp [intOf]; omega
        · have Hsu : Hid (chgTo L 0 (m + 1) = chgTo L 0 m) := by
            show _ = _
            rw [hsu, if_neg (by rw [decide_eq_true_eq]; exact he)]; omega
          clear hsu
          go_wp2_with fail
          refine (charged_any _ _).mono ?_
          rintro e w' ⟨rfl, rfl⟩
          generalize chgOf y.b.size = cz at *
          go_wp2
          go_roundw
          case rel => exact ⟨m + 1, by omega, by go_num, by rw [Hsu.out], (by first | rfl | trivial)⟩
          case measure => simp [intOf]; omega
      · obtain rfl : m = L.length := by omega
        go_wp2
        go_ret
        exact ⟨by rw [Hall.out]; rfl, rfl⟩
  · go_loopw [5, 6, 7] (fun t5 t6 _ w' => ∃ m : Nat, m ≤ L.length ∧ t6 = .int .i64 m ∧ t5 = .int .i64 (chgTo L 1 m) ∧ w' = V) (fun _ t6 _ _ => L.length - (intOf t6).toNat)
    case atStart => exact ⟨0, Nat.zero_le _, rfl, by simp [chgTo], rfl⟩
    case round =>
      obtain ⟨m, hml, rfl, rfl, hwr⟩ := hrel
      subst hwr
      by_cases hmlt : m < L.length
      · obtain ⟨g, rfl⟩ := hpv (by omega)
        obtain ⟨y, hy⟩ : ∃ y, L[m]? = some y := ⟨_, List.getElem?_eq_getElem hmlt⟩
        have g1 := Hrow.out g rfl m y hy
        have hmlt' : (m : Int) < (L.length : Int) := by omega
        have hb := Hbd.out m
        have hsu := chgTo_succ L 1 m y hy
        rw [show y.b.key = (y.b.at_, y.b.size) from rfl, chg_small _ 1 (by omega)] at hsu
        by_cases he : chgOf y.b.size = 16
        · have Hsu : Hid (chgTo L 1 (m + 1) = chgTo L 1 m + 16) := by
            show _ = _
            rw [hsu, if_pos (by rw [he]; rfl)]; rfl
          clear hsu
          go_wp2_with fail
          refine (charged_any _ _).mono ?_
          rintro e w' ⟨rfl, rfl⟩
          rw [he]
          go_wp2
          go_roundw
          case rel => exact ⟨m + 1, by omega, by go_num, by rw [Hsu.out], (by first | rfl | trivial)⟩
          case measure => simp [intOf]; omega
        · have Hsu : Hid (chgTo L 1 (m + 1) = chgTo L 1 m) := by
            show _ = _
            rw [hsu, if_neg (by rw [decide_eq_true_eq]; exact he)]; omega
          clear hsu
          go_wp2_with fail
          refine (charged_any _ _).mono ?_
          rintro e w' ⟨rfl, rfl⟩
          generalize chgOf y.b.size = cz at *
          go_wp2
          go_roundw
          case rel => exact ⟨m + 1, by omega, by go_num, by rw [Hsu.out], (by first | rfl | trivial)⟩
          case measure => simp [intOf]; omega
      · obtain rfl : m = L.length := by omega
        go_wp2
        go_ret
        exact ⟨by rw [Hall.out]; rfl, rfl⟩
  · go_loopw [5, 6, 7] (fun t5 t6 _ w' => ∃ m : Nat, m ≤ L.length ∧ t6 = .int .i64 m ∧ t5 = .int .i64 (chgTo L 2 m) ∧ w' = V) (fun _ t6 _ _ => L.length - (intOf t6).toNat)
    case atStart => exact ⟨0, Nat.zero_le _, rfl, by simp [chgTo], rfl⟩
    case round =>
      obtain ⟨m, hml, rfl, rfl, hwr⟩ := hrel
      subst hwr
      by_cases hmlt : m < L.length
      · obtain ⟨g, rfl⟩ := hpv (by omega)
        obtain ⟨y, hy⟩ : ∃ y, L[m]? = some y := ⟨_, List.getElem?_eq_getElem hmlt⟩
        have g1 := Hrow.out g rfl m y hy
        have hmlt' : (m : Int) < (L.length : Int) := by omega
        have hb := Hbd.out m
        have hsu := chgTo_succ L 2 m y hy
        rw [show y.b.key = (y.b.at_, y.b.size) from rfl, chg_small _ 2 (by omega)] at hsu
        by_cases he : chgOf y.b.size = 32
        · have Hsu : Hid (chgTo L 2 (m + 1) = chgTo L 2 m + 32) := by
            show _ = _
            rw [hsu, if_pos (by rw [he]; rfl)]; rfl
          clear hsu
          go_wp2_with fail
          refine (charged_any _ _).mono ?_
          rintro e w' ⟨rfl, rfl⟩
          rw [he]
          go_wp2
          go_roundw
          case rel => exact ⟨m + 1, by omega, by go_num, by rw [Hsu.out], (by first | rfl | trivial)⟩
          case measure => simp [intOf]; omega
        · have Hsu : Hid (chgTo L 2 (m + 1) = chgTo L 2 m) := by
            show _ = _
            rw [hsu, if_neg (by rw [decide_eq_true_eq]; exact he)]; omega
          clear hsu
          go_wp2_with fail
          refine (charged_any _ _).mono ?_
          rintro e w' ⟨rfl, rfl⟩
          generalize chgOf y.b.size = cz at *
          go_wp2
          go_roundw
          case rel => exact ⟨m + 1, by omega, by go_num, by rw [Hsu.out], (by first | rfl | trivial)⟩
          case measure => simp [intOf]; omega
      · obtain rfl : m = L.length := by omega
        go_wp2
        go_ret
        exact ⟨by rw [Hall.out]; rfl, rfl⟩
end Go.Proofs.YtbagfepdmmfegaaDoor

/- WHAT IS HELD, BY FRAMES. Plain. -/
namespace Ti

theorem held_frames (S : St) (h c : Int) : S.held h c = 64 * sumTo (fun k => if S.mine h c k = true then 1 else 0) S.sups.length := by
  rw [held_sum, ← sumTo_mul]
  exact sumTo_congr (fun k _ => by split <;> rfl)
theorem held_mod (S : St) (h c : Int) : S.held h c % 64 = 0 := by rw [held_frames]; omega
theorem held_quo (S : St) (h c : Int) : S.held h c / 64 = sumTo (fun k => if S.mine h c k = true then 1 else 0) S.sups.length := by rw [held_frames]; omega
/-- the frames that a class holds -/
def St.fr (S : St) (c : Int) (n : Nat) : Int := sumTo (fun h => S.held h c / 64) n
theorem fr_all (S : St) (hI : Inv0 S) (c : Int) : S.fr c (S.heaps.toNat + 1) = sumTo (fun k => if S.kind c k = true then 1 else 0) S.sups.length := by
  unfold St.fr
  rw [sumTo_congr (g' := fun h : Nat => sumTo (fun k => if S.mine h c k = true then 1 else 0) S.sups.length) (fun h _ => held_quo S h c), heaps_sum S hI c (fun _ => 1)]
theorem fr_whole (S : St) (hI : Inv0 S) : (S.freeFrames : Int) + sumL frames S.blocks + S.fr 0 (S.heaps.toNat + 1) + S.fr 1 (S.heaps.toNat + 1) + S.fr 2 (S.heaps.toNat + 1) = S.sups.length := by
  have := frames_all S hI
  simp only [sumTo] at this
  rw [fr_all S hI 0, fr_all S hI 1, fr_all S hI 2]
  simp only [show ((0 : Nat) : Int) = 0 from rfl, show ((0 + 1 : Nat) : Int) = 1 from rfl, show ((0 + 1 + 1 : Nat) : Int) = 2 from rfl] at this
  omega
theorem sumL_append (g : (Int × Int) → Int) (l l' : List (Int × Int)) : sumL g (l ++ l') = sumL g l + sumL g l' := by
  induction l with
  | nil => simp [sumL]
  | cons x r ih => simp only [List.cons_append, sumL, ih]; omega
theorem frames_bd (b : Int × Int) (h1 : 1 ≤ b.2) (h2 : b.2 ≤ 256) : 0 ≤ frames b ∧ frames b ≤ 4 := by unfold frames; split <;> omega
end Ti
namespace Go.Proofs.YtbagfepdmmfegaaDoor
open Go.RowKit

/-- the frames of the first m blocks that are large -/
def frTo (L : List Hb) (m : Nat) : Int := Ti.sumL Ti.frames ((L.take m).map (fun y => y.b.key))
theorem frTo_succ (L : List Hb) (m : Nat) (y : Hb) (hy : L[m]? = some y) : frTo L (m + 1) = frTo L m + Ti.frames y.b.key := by
  unfold frTo
  rw [List.take_add_one, hy]
  simp only [Option.toList_some, List.map_append, List.map_cons, List.map_nil, Ti.sumL_append, Ti.sumL]
  omega
theorem frTo_bd {S : Ti.St} {L : List Hb} (h : Ti.FarmOk S (L.map Hb.b)) (m : Nat) : 0 ≤ frTo L m ∧ frTo L m ≤ 4 * L.length := by
  have hb : ∀ y ∈ L, 0 ≤ Ti.frames y.b.key ∧ Ti.frames y.b.key ≤ 4 := fun y hy => by
    have := Ti.within_of S h.inv.toInv0 (h.mem (List.mem_map.2 ⟨y, hy, rfl⟩))
    exact Ti.frames_bd _ this.1 this.2.1
  have : ∀ l : List Hb, (∀ y ∈ l, 0 ≤ Ti.frames y.b.key ∧ Ti.frames y.b.key ≤ 4) → 0 ≤ Ti.sumL Ti.frames (l.map (fun y => y.b.key)) ∧ Ti.sumL Ti.frames (l.map (fun y => y.b.key)) ≤ 4 * l.length := fun l => by
    induction l with
    | nil => intro _; simp [Ti.sumL]
    | cons x r ih =>
      intro hl
      have h1 := hl x (List.mem_cons_self ..)
      have h2 := ih (fun y hy => hl y (List.mem_cons_of_mem _ hy))
      simp only [List.map_cons, Ti.sumL, List.length_cons]
      omega
  have h3 := this (L.take m) (fun y hy => hb y (List.mem_of_mem_take hy))
  have h4 : (L.take m).length ≤ L.length := by rw [List.length_take]; omega
  unfold frTo
  omega
theorem frTo_all {S : Ti.St} {L : List Hb} (h : Ti.FarmOk S (L.map Hb.b)) : (S.freeFrames : Int) + frTo L L.length + S.fr 0 (S.heaps.toNat + 1) + S.fr 1 (S.heaps.toNat + 1) + S.fr 2 (S.heaps.toNat + 1) = S.sups.length := by
  have h1 := Ti.fr_whole S h.inv.toInv0
  have h2 : frTo L L.length = Ti.sumL Ti.frames S.blocks := by
    unfold frTo
    rw [List.take_length]
    refine Ti.sumL_perm _ ?_
    have := h.perm
    rw [List.map_map] at this
    exact this
  omega
theorem chgs_all {S : Ti.St} (hI : Ti.Inv0 S) (c : Int) : Ti.sumTo (fun h => S.charged h c) (S.heaps.toNat + 1) = S.chg c := Ti.charged_all S hI c
end Go.Proofs.YtbagfepdmmfegaaDoor
