import Derived.Test.YtbagfepdmmfegaaDoorK30
set_option linter.unusedVariables false
set_option linter.unusedSimpArgs false
/- WHEN NO BLOCK IS LEFT. -/
namespace Ti

theorem used_none (S : St) (hb : S.blocks = []) (k : Nat) : S.used k = 0 := by
  rw [St.used, usedN_countP, hb]; rfl
theorem charged_none (S : St) (hb : S.blocks = []) (h c : Int) : S.charged h c = 0 := by
  rw [charged_sum, sumTo_congr (g' := fun _ => 0) (fun k _ => by rw [used_none S hb k]; split <;> simp), sumTo_zero]
theorem held_none (S : St) (hI : Inv S) (hb : S.blocks = []) (c : Int) : S.held 0 c = 0 := by
  rw [held_sum, sumTo_congr (g' := fun _ => 0) (fun k _ => ?_), sumTo_zero]
  rw [if_neg]
  intro hm
  obtain ⟨h1, h2, _⟩ := (mine_iff S 0 c k).1 hm
  exact hI.zero k h1 h2 (used_none S hb k)
theorem lean_none (S : St) (hI : Inv S) (hL : LeanOk S) (hb : S.blocks = []) (h c : Int) (hh : 0 ≤ h) : S.held h c ≤ 64 * S.slack ∧ (h = 0 → S.held h c = 0) := by
  have hs := hI.s1
  refine ⟨?_, fun e => by rw [e]; exact held_none S hI hb c⟩
  rcases Int.lt_or_eq_of_le hh with hp | hp
  · have := hL h c hp
    rw [charged_none S hb] at this
    omega
  · rw [← hp, held_none S hI hb]; omega
end Ti
namespace Go.Proofs.YtbagfepdmmfegaaDoor
open Go.RowKit

/-- a block is given back -/
theorem Mid.less {PA : World → Nat → (Nat → Prop) → Ti.St → Prop} {W V : World} {fl : Nat} {h n s : Int} {S : Ti.St} {L : List Hb} {big : Prop} (F : Face PA big) (hm : Mid PA W V fl h n s S L) (hL : 0 < L.length) (a b : Int) (a0 : -9223372036854775808 ≤ a) (a1 : a ≤ 9223372036854775807) :
    Calls Tryd.prog 15 #[.pointer (some ⟨fl, 0, none⟩), .agg #[.int .i64 1, .int .i64 a, .int .i64 b]] V fun e V' => e = .returned (.bool true) ∧ ∃ S' L', Mid PA W V' fl h n s S' L' ∧ Ext none1 W V' ∧ L'.length + 1 = L.length := by
  obtain ⟨foot, hA, hE, hf, hfl, h1, h2, h3, h4⟩ := hm
  have hlt := hA.flt _ hA.ffl
  refine (step_less F V fl (fl + 1) foot S L hA hL a b a0 a1).mono ?_
  rintro e V' ⟨rfl, foot', S', L', q0, q1, q2, q3, q4, q5, q6, q7, q8⟩
  have hE' : Ext none1 W V' := hE.trans' q2 (fun k hk hk' => by have := hf k hk'; omega)
  refine ⟨rfl, S', L', ⟨foot', q1, hE', fun k hk => ?_, hfl, q4.trans h1, by rw [q6]; exact h2, q5.trans h3, q7 h4⟩, hE', q0⟩
  rcases q3 k hk with q | q
  · exact hf k q
  · have := hE.size; omega
end Go.Proofs.YtbagfepdmmfegaaDoor
