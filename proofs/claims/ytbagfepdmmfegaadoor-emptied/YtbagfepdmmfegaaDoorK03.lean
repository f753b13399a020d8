import Derived.Test.YtbagfepdmmfegaaDoorK02
import Derived.Deep.RegionWith
set_option linter.unusedVariables false
set_option linter.unusedSimpArgs false
namespace Go.Proofs.YtbagfepdmmfegaaDoor
open Go.RowKit

theorem width_bd (c : Int) : 8 ≤ Ti.width c ∧ Ti.width c ≤ 32 := by
  rcases width_cases c with h | h | h <;> omega

theorem held_bd (S : Ti.St) (h c : Int) (k : Nat) : 0 ≤ S.heldTo h c k ∧ S.heldTo h c k ≤ 64 * k := by
  induction k with
  | zero => simp [Ti.St.heldTo]
  | succ k ih => simp only [Ti.St.heldTo]; split <;> omega
theorem charged_bd (S : Ti.St) (hB : Bd S) (h c : Int) (k : Nat) : 0 ≤ S.chargedTo h c k ∧ S.chargedTo h c k ≤ 32768 * k := by
  induction k with
  | zero => simp [Ti.St.chargedTo]
  | succ k ih =>
    simp only [Ti.St.chargedTo]
    have h1 := used_le S hB k
    have h2 := width_bd c
    have h3 : Ti.width c * (S.used k : Int) ≤ 32 * 1024 := Int.mul_le_mul h2.2 h1 (by omega) (by omega)
    have h4 : 0 ≤ Ti.width c * (S.used k : Int) := Int.mul_nonneg (by omega) (by omega)
    split <;> omega

theorem stats_step {w wr : World} (a b a' b' : Value) (T : TypeId) (o : Obj) (v0 : Obj) (hE : Ext none1 w wr) (h0 : wr.heap[w.heap.size]? = some v0) (h1 : wr.heap[w.heap.size + 1]? = some (.cells #[a, b] T (0, 0))) :
    Ext none1 w (((wr.setCell ⟨w.heap.size + 1, 0, none⟩ a').setCell ⟨w.heap.size + 1, 1, none⟩ b').alloc o).drew ∧
    (((wr.setCell ⟨w.heap.size + 1, 0, none⟩ a').setCell ⟨w.heap.size + 1, 1, none⟩ b').alloc o).drew.heap[w.heap.size]? = some v0 ∧
    (((wr.setCell ⟨w.heap.size + 1, 0, none⟩ a').setCell ⟨w.heap.size + 1, 1, none⟩ b').alloc o).drew.heap[w.heap.size + 1]? = some (.cells #[a', b'] T (0, 0)) := by
  have t1 := heap_set h1 0 a'
  have t2 := heap_set t1 1 b'
  have l2 := lt_of_heap t2
  refine ⟨(((hE.setCell _ (.inr (by simp)) _).setCell _ (.inr (by simp)) _).alloc _).drew, ?_, ?_⟩
  · refine (Below.heap_alloc _ _ _ (by omega)).trans ?_
    rw [heap_set_ne (by omega), heap_set_ne (by omega)]; exact h0
  · refine (Below.heap_alloc _ _ _ l2).trans ?_
    simpa using t2

set_option maxHeartbeats 2000000 in
theorem refStats_any (w : World) (r bf bz cap : Nat) (p : Option Addr) (S : Ti.St) (h c : Int) (hR : RefAt w r bf bz p cap S) (hB : Bd S) (h0 : 0 ≤ h) (h4 : h ≤ S.heaps) (c0 : 0 ≤ c) (c2 : c ≤ 2) :
    Calls Tryd.prog 70 #[.pointer (some ⟨r, 0, none⟩), .int .i64 h, .int .i64 c] w fun e w' => e = .returned (.tuple #[.agg #[.int .i64 (S.held h c), .int .i64 (S.charged h c)], .int .i64 0]) ∧ Ext none1 w w' := by
  have hl := hB.f16
  have hh := hB.h4
  have cr0 : w.cell? ⟨r, 0, none⟩ = some (.int .i64 S.heaps) := by rw [cell_of hR.hd]; rfl
  go_enter Tryd.func70, Tryd.ntmps70
  have hrl := lt_of_heap hR.hd
  have hd1 : decide (h < 0) = false := decide_eq_false (by omega)
  have hd2 : decide (S.heaps < h) = false := decide_eq_false (by omega)
  have hd3 : decide (c < 0) = false := decide_eq_false (by omega)
  have hd4 : decide (3 ≤ c) = false := decide_eq_false (by omega)
  go_wp2
  go_loopw [9] (fun i wr => ∃ k : Nat, k ≤ S.sups.length ∧ i = .int .i64 k ∧ Ext none1 w wr ∧ wr.heap[w.heap.size]? = some (.cells #[.int .i64 0, .int .i64 0] 44 (0, 0)) ∧
      wr.heap[w.heap.size + 1]? = some (.cells #[.int .i64 (S.heldTo h c k), .int .i64 (S.chargedTo h c k)] 44 (0, 0))) (fun i _ => S.sups.length - (intOf i).toNat)
  case atStart => exact ⟨0, Nat.zero_le _, rfl, ((Ext.refl _ _).alloc _).alloc _, (Below.heap_alloc _ _ _ (by simp)).trans (heap_alloc_new _ _), by have h := heap_alloc_new (w.alloc (.cells #[.int .i64 0, .int .i64 0] 44)) (.cells #[.int .i64 0, .int .i64 0] 44); rw [World.size_alloc] at h; exact h⟩
  case round =>
    obtain ⟨k, hk, rfl, hE, hb0, hb1⟩ := hrel
    have hRr := hR.keep0 hE
    have hr := hRr.c1
    by_cases hlt : k < S.sups.length
    · obtain ⟨q1, q2, q3⟩ := hRr.sc k hlt
      have hs1 := lt_of_heap hb1
      have hs2 := lt_of_heap hRr.hd
      have m0 := cell_of hb1 0
      have m1 := cell_of hb1 1
      have mf0 := frozen_of hb1 0
      have mf1 := frozen_of hb1 1
      simp at m0 m1
      have hbd := held_bd S h c k
      have hcd := charged_bd S hB h c k
      have hub := used_le S hB k
      have hwd := width_bd c
      generalize hsp : S.sup k = sp at *
      obtain ⟨is, cl, hp⟩ := sp
      dsimp only at *
      by_cases e : is = true ∧ hp = h ∧ cl = c
      · obtain ⟨rfl, rfl, rfl⟩ := e
        have b1 : (hp == hp) = true := beq_iff_eq.2 rfl
        have b2 : (cl == cl) = true := beq_iff_eq.2 rfl
        have hst : Hid (S.heldTo hp cl (k + 1) = S.heldTo hp cl k + 64) := by show _ = _; simp [Ti.St.heldTo, Ti.St.mine, hsp]
        have hsc : Hid (S.chargedTo hp cl (k + 1) = S.chargedTo hp cl k + Ti.width cl * (Ti.usedN S.blocks k : Nat)) := by show _ = _; simp [Ti.St.chargedTo, Ti.St.mine, hsp, Ti.St.used]
        have h3 : Ti.width cl * (Ti.usedN S.blocks k : Int) ≤ 32 * 1024 := Int.mul_le_mul hwd.2 hub (by omega) (by omega)
        have h4 : 0 ≤ Ti.width cl * (Ti.usedN S.blocks k : Int) := Int.mul_nonneg (by omega) (by omega)
        clear hsp
        go_wp2
        go_region_with (first
          | (go_at_call 89; refine (width_any _ _).mono ?_; rintro e w' ⟨rfl, rfl⟩)
          | (go_at_call 91; refine (used_any _ r bf bz cap p S k ?_ hB).mono ?_; exact hR.keep0 (by repeat (first | exact hE | refine Ext.drew ?_ | refine Ext.alloc ?_ _ | refine Ext.setCell ?_ _ (.inr (by simp)) _)); rintro e w' ⟨rfl, rfl⟩))
        all_goals go_wp2
        all_goals go_roundw
        case rel => exact ⟨k + 1, by omega, by go_num, by rw [hst.out, hsc.out]; exact stats_step _ _ _ _ _ _ _ hE hb0 hb1⟩
        case measure => simp [intOf]; omega
        case rel => exact ⟨k + 1, by omega, by go_num, by rw [hst.out, hsc.out]; exact stats_step _ _ _ _ _ _ _ hE hb0 hb1⟩
        case measure => simp [intOf]; omega
        case rel => exact ⟨k + 1, by omega, by go_num, by rw [hst.out, hsc.out]; exact stats_step _ _ _ _ _ _ _ hE hb0 hb1⟩
        case measure => simp [intOf]; omega
      · have hmine : Hid (S.mine h c k = false) := by
          show _ = _
          simp only [Ti.St.mine, hsp]
          cases is
          · rfl
          · simp at e ⊢; exact e
        have hst : Hid (S.heldTo h c (k + 1) = S.heldTo h c k) := by show _ = _; simp [Ti.St.heldTo, hmine.out]
        have hsc : Hid (S.chargedTo h c (k + 1) = S.chargedTo h c k) := by show _ = _; simp [Ti.St.chargedTo, hmine.out]
        have hfin : Hid (Ext none1 w (wr.alloc (.cells #[.bool is, .int .i64 cl, .int .i64 hp] 136)) ∧ (wr.alloc (.cells #[.bool is, .int .i64 cl, .int .i64 hp] 136)).heap[w.heap.size]? = some (.cells #[.int .i64 0, .int .i64 0] 44 (0, 0)) ∧
          (wr.alloc (.cells #[.bool is, .int .i64 cl, .int .i64 hp] 136)).heap[w.heap.size + 1]? = some (.cells #[.int .i64 (S.heldTo h c (k + 1)), .int .i64 (S.chargedTo h c (k + 1))] 44 (0, 0))) :=
          ⟨hE.alloc _, (Below.heap_alloc _ _ _ (by omega)).trans hb0, by rw [hst.out, hsc.out]; exact (Below.heap_alloc _ _ _ (by omega)).trans hb1⟩
        clear hsp hmine hst hsc hb0 hb1
        cases is
        · clear e
          go_wp2
          go_roundw
          case rel => exact ⟨k + 1, by omega, by go_num, hfin.out⟩
          case measure => simp [intOf]; omega
        · by_cases e1 : hp = h
          · have e2 : cl ≠ c := fun x => e ⟨rfl, e1, x⟩
            have b1 : (hp == h) = true := beq_iff_eq.2 e1
            have b2 : (cl == c) = false := beq_eq_false_iff_ne.2 e2
            clear e e1 e2
            go_wp2
            go_roundw
            case rel => exact ⟨k + 1, by omega, by go_num, hfin.out⟩
            case measure => simp [intOf]; omega
          · have b1 : (hp == h) = false := beq_eq_false_iff_ne.2 e1
            clear e e1
            go_wp2
            go_roundw
            case rel => exact ⟨k + 1, by omega, by go_num, hfin.out⟩
            case measure => simp [intOf]; omega
    · have e : k = S.sups.length := by omega
      subst e
      have m0 := cell_of hb1 0
      have m1 := cell_of hb1 1
      have n0 := cell_of hb0 0
      have n1 := cell_of hb0 1
      have nf0 := frozen_of hb0 0
      have nf1 := frozen_of hb0 1
      simp at m0 m1 n0 n1
      have hs0 := lt_of_heap hb0
      go_wp2
      exact bodyPost_ret (v := .tuple #[.agg #[.int .i64 (S.held h c), .int .i64 (S.charged h c)], .int .i64 0]) (by have t2 := heap_set (heap_set hb0 0 (.int .i64 (S.heldTo h c S.sups.length))) 1 (.int .i64 (S.chargedTo h c S.sups.length)); have k0 := cell_of t2 0; have k1 := cell_of t2 1; simp at k0 k1; simp [results, Tryd.results70, go_sem, Ti.St.held, Ti.St.charged, k0, k1]) rfl ⟨rfl, (hE.setCell _ (.inr (by simp)) _).setCell _ (.inr (by simp)) _⟩
end Go.Proofs.YtbagfepdmmfegaaDoor

namespace Go.Proofs.YtbagfepdmmfegaaDoor
open Go.RowKit

def flat (bs : List (Int × Int)) : List Value := bs.flatMap fun b => [.int .i64 b.1, .int .i64 b.2]

theorem flat_append (a b : List (Int × Int)) : flat (a ++ b) = flat a ++ flat b := by simp [flat]
theorem flat_length (a : List (Int × Int)) : (flat a).length = a.length * 2 := by
  induction a with
  | nil => rfl
  | cons x r ih => simp [flat] at ih ⊢; omega
theorem flat_get (a : List (Int × Int)) (k : Nat) (h : k < a.length) : (flat a)[k * 2]? = some (.int .i64 (Ti.bk a k).1) ∧ (flat a)[k * 2 + 1]? = some (.int .i64 (Ti.bk a k).2) := by
  induction a generalizing k with
  | nil => simp at h
  | cons x r ih =>
    cases k with
    | zero => simp [flat, Ti.bk]
    | succ k =>
      have := ih k (by simpa using h)
      have e : (k + 1) * 2 = k * 2 + 2 := by omega
      rw [e]
      simpa [flat, Ti.bk] using this

theorem blocksIn_of_owns {w : World} {base : Nat} {v : Value} {L : List (Int × Int)} (h : w.ownsRow base 134 2 v L.length (flat L)) :
    ∃ p cap, v = .slice p L.length cap ∧ BlocksIn w p L ∧ (∀ a, p = some a → base ≤ a.block ∧ a.block < w.heap.size) ∧ L.length ≤ cap := by
  rcases h.2 with ⟨rfl, h0⟩ | ⟨g, cap, cur, rfl, hb, hg, h1, h2, h3, h4⟩
  · exact ⟨none, 0, by rw [h0], fun k hk => by omega, (fun a ha => by cases ha), by omega⟩
  · refine ⟨_, cap, rfl, fun k hk => ⟨g, cur, (0, 0), rfl, hg, ?_⟩, (fun a ha => by cases ha; exact ⟨hb, lt_of_heap hg⟩), h1⟩
    have hf := flat_get L k hk
    rw [← h4] at hf
    have q1 : k * 2 < L.length * 2 := by omega
    have q2 : k * 2 + 1 < L.length * 2 := by omega
    simpa [List.getElem?_take, q1, q2] using hf

/-- what 'put' has gathered behind k rounds, and whether the new block is in -/
def insTo (b : Int × Int) (bs : List (Int × Int)) : Nat → List (Int × Int) × Bool
  | 0 => ([], false)
  | k + 1 => if (insTo b bs k).2 = false ∧ b.1 < (Ti.bk bs k).1 then ((insTo b bs k).1 ++ [b] ++ [Ti.bk bs k], true) else ((insTo b bs k).1 ++ [Ti.bk bs k], (insTo b bs k).2)

theorem insTo_len (b : Int × Int) (bs : List (Int × Int)) (k : Nat) : (insTo b bs k).1.length ≤ k + 1 ∧ ((insTo b bs k).2 = false → (insTo b bs k).1.length = k) := by
  induction k with
  | zero => simp [insTo]
  | succ k ih =>
    simp only [insTo]
    split
    · rename_i h; have := ih.2 h.1; simp [this]
    · simp; exact ⟨by omega, fun h => by have := ih.2 h; omega⟩

theorem ins_snoc (b x : Int × Int) (l : List (Int × Int)) (h : ∀ y ∈ l, ¬ b.1 < y.1) : Ti.ins b (l ++ [x]) = if b.1 < x.1 then l ++ [b, x] else l ++ [x, b] := by
  induction l with
  | nil => simp [Ti.ins]
  | cons y r ih =>
    have := ih (fun z hz => h z (by simp [hz]))
    simp only [List.cons_append, Ti.ins]
    rw [if_neg (h y (by simp)), this]
    split <;> rfl
theorem ins_snoc_in (b x : Int × Int) (l : List (Int × Int)) (h : ∃ y ∈ l, b.1 < y.1) : Ti.ins b (l ++ [x]) = Ti.ins b l ++ [x] := by
  induction l with
  | nil => simp at h
  | cons y r ih =>
    simp only [List.cons_append, Ti.ins]
    split
    · rfl
    · rename_i hn
      rw [ih]; rfl
      obtain ⟨z, hz, hlt⟩ := h
      simp at hz
      rcases hz with rfl | hz
      · exact absurd hlt hn
      · exact ⟨z, hz, hlt⟩
theorem ins_none (b : Int × Int) (l : List (Int × Int)) (h : ∀ y ∈ l, ¬ b.1 < y.1) : Ti.ins b l = l ++ [b] := by
  induction l with
  | nil => rfl
  | cons y r ih => simp only [Ti.ins]; rw [if_neg (h y (by simp)), ih (fun z hz => h z (by simp [hz]))]; rfl

theorem take_snoc (bs : List (Int × Int)) (k : Nat) (h : k < bs.length) : bs.take (k + 1) = bs.take k ++ [Ti.bk bs k] := by
  rw [List.take_succ_eq_append_getElem h]; simp [Ti.bk, h]

theorem insTo_spec (b : Int × Int) (bs : List (Int × Int)) (k : Nat) (hk : k ≤ bs.length) :
    ((insTo b bs k).2 = true → (insTo b bs k).1 = Ti.ins b (bs.take k) ∧ ∃ y ∈ bs.take k, b.1 < y.1) ∧ ((insTo b bs k).2 = false → (insTo b bs k).1 = bs.take k ∧ ∀ y ∈ bs.take k, ¬ b.1 < y.1) := by
  induction k with
  | zero => simp [insTo]
  | succ k ih =>
    obtain ⟨i1, i2⟩ := ih (by omega)
    rw [take_snoc bs k (by omega)]
    simp only [insTo]
    split
    · rename_i h
      obtain ⟨j1, j2⟩ := i2 h.1
      refine ⟨fun _ => ⟨?_, Ti.bk bs k, by simp, h.2⟩, fun h => by cases h⟩
      rw [ins_snoc _ _ _ j2, if_pos h.2, j1]; simp
    · rename_i h
      refine ⟨fun ht => ?_, fun hf => ?_⟩
      · obtain ⟨j1, y, hy, hlt⟩ := i1 ht
        exact ⟨by rw [ins_snoc_in _ _ _ ⟨y, hy, hlt⟩]; simp [j1], y, by simp [hy], hlt⟩
      · obtain ⟨j1, j2⟩ := i2 hf
        refine ⟨by simp [j1], fun y hy => ?_⟩
        simp only [List.mem_append, List.mem_singleton] at hy
        rcases hy with hy | rfl
        · exact j2 y hy
        · intro hlt; exact h ⟨hf, hlt⟩

theorem infoBlock : (Tryd.prog.info? 134).map (fun i => (i.zero, i.size, i.bytes)) = some (some (.agg #[.int .i64 0, .int .i64 0]), 2, 16) := by kernel_rfl

end Go.Proofs.YtbagfepdmmfegaaDoor

namespace Go.Proofs.YtbagfepdmmfegaaDoor
open Go.RowKit

theorem Ext.grown {X : Nat → Prop} {a w w' : World} {row : Option Nat} (h : Ext X a w) (hg : w.grownBy w' row) (hr : ∀ k, row = some k → X k ∨ a.heap.size ≤ k) : Ext X a w' :=
  h.trans' (Y := fun k => row = some k) ⟨hg.os, hg.tape, hg.output, hg.size, fun k hk hn => hg.block k hk (fun e => hn e.symm)⟩
    (fun j hj e => by rcases hr j e with h | h; exact h; omega)

theorem owns_block {w : World} {base : Nat} {e : TypeId} {size : Nat} {v : Value} {n : Nat} {xs : List Value} (h : w.ownsRow base e size v n xs) (k : Nat) (hk : v.ownBlock = some k) : base ≤ k := by
  rcases h.2 with ⟨rfl, _⟩ | ⟨g, cap, cur, rfl, hb, _⟩
  · simp [Value.ownBlock] at hk
  · simp [Value.ownBlock] at hk; omega

theorem app_step {w W w1 : World} {v : Value} {n : Nat} {xs : List Value} {e : TypeId} {size : Nat} {ob : Obj} (hE : Ext none1 w W) (hbox : W.heap[w.heap.size]? = some ob) (hown : W.ownsRow (w.heap.size + 1) e size v n xs) (hg : W.grownBy w1 v.ownBlock) :
    Ext none1 w w1 ∧ w1.heap[w.heap.size]? = some ob := by
  refine ⟨hE.grown hg (fun k hk => .inr (by have := owns_block hown k hk; omega)), ?_⟩
  rw [hg.block _ (lt_of_heap hbox) (fun h => by have := owns_block hown _ h.symm; omega)]
  exact hbox

theorem news2 {W : World} {b : Nat} {x1 x2 : Value} (h0 : W.cell? ⟨b, 0, none⟩ = some x1) (h1 : W.cell? ⟨b, 1, none⟩ = some x2) : ∀ j u, [x1, x2][j]? = some u → W.cell? ((⟨b, 0, none⟩ : Addr).add j) = some u := by
  intro j u hj
  match j, hj with
  | 0, hj => simp at hj; subst hj; simpa [Addr.add] using h0
  | 1, hj => simp at hj; subst hj; simpa [Addr.add] using h1

/-- 'append(l, x)' at the reference's blocks -/
theorem wp_app {ops : Array Oper} {rest : List Oper} {o : Oper} {a : Act} {Q : Exit → Act → World → Prop} {W : World} (hgd : o.guard = none) (s x : Operand)
    (ho : o.op = .call { callee := .builtin .append, args := #[s, x], argTypes := #[129, 129] })
    (base : Nat) (v : Value) (L : List (Int × Int)) (hs : a.eval s = v) (hown : W.ownsRow base 134 2 v L.length (flat L)) (b : Nat) (y : Int × Int) (hx : a.eval x = .slice (some ⟨b, 0, none⟩) 1 1)
    (h0 : W.cell? ⟨b, 0, none⟩ = some (.int .i64 y.1)) (h1 : W.cell? ⟨b, 1, none⟩ = some (.int .i64 y.2)) (hn : L.length ≤ 2000) (hbase : base ≤ W.heap.size)
    (h : ∀ v' w', w'.ownsRow base 134 2 v' (L ++ [y]).length (flat (L ++ [y])) → W.grownBy w' v.ownBlock → wpList Tryd.prog ops Q rest (a.put o.dst v') w') : wpList Tryd.prog ops Q (o :: rest) a W := by
  obtain ⟨i0, hi, hi0, hi1, hi2⟩ := info_parts infoBlock
  refine wpList_append_own _ hgd s x 129 ho base 134 i0 _ 2 16 Tryd.underlying129 hi hi0 hi1 hi2 rfl (by decide) v L.length (flat L) hs hown ⟨b, 0, none⟩ 1 1 [.int .i64 y.1, .int .i64 y.2] hx rfl
    (news2 h0 h1) (by intro u hu; simp at hu; rcases hu with rfl | rfl <;> rfl) (by unfold maxLen; omega) (by omega) hbase ?_
  intro v' w' h2 h3 _
  refine h v' w' ?_ h3
  rw [flat_append]
  simpa [flat] using h2

def two (a b : Nat) : Nat → Prop := fun k => k = a ∨ k = b

/-- the reference's blocks are apart from one another -/
structure Apart4 (r bf bz : Nat) (p : Option Addr) : Prop where
  rf : r ≠ bf
  rz : r ≠ bz
  fz : bf ≠ bz
  pr : ∀ x, p = some x → x.block ≠ r ∧ x.block ≠ bf ∧ x.block ≠ bz

theorem RefAt.drew {w : World} {r bf bz cap : Nat} {p : Option Addr} {S : Ti.St} (h : RefAt w r bf bz p cap S) : RefAt w.drew r bf bz p cap S := h.keep0 ((Ext.refl _ _).drew)

theorem RefAt.setByte {w : World} {r bf bz cap : Nat} {p : Option Addr} {S : Ti.St} (h : RefAt w r bf bz p cap S) (hA : Apart4 r bf bz p) (k : Nat) (v : Int) (hk : k < S.bytes.length) :
    RefAt (w.setCell ⟨bz, k, none⟩ (.int .i64 v)) r bf bz p cap { S with bytes := S.bytes.set k v } := by
  refine ⟨?_, ?_, ?_, ?_, h.le⟩
  · simpa using (heap_set_ne hA.rz _ _).trans h.hd
  · obtain ⟨c, q1, q2, q3⟩ := h.sups
    exact ⟨c, (heap_set_ne hA.fz _ _).trans q1, q2, q3⟩
  · obtain ⟨c, q1, q2, q3⟩ := h.bytes
    refine ⟨_, heap_set q1 _ _, by simpa using q2, fun j hj => ?_⟩
    simp only [List.length_set] at hj
    by_cases e : k = j
    · subst e; simp [q2, hj]
    · simp [Array.getElem?_setIfInBounds, e, q3 j hj]
  · intro j hj
    obtain ⟨bb, c, f, q1, q2, q3⟩ := h.blocks j hj
    exact ⟨bb, c, f, q1, (heap_set_ne (hA.pr _ q1).2.2 _ _).trans q2, q3⟩

theorem RefAt.setBlocks {w : World} {r bf bz cap cap' : Nat} {p p' : Option Addr} {S : Ti.St} {L : List (Int × Int)} (h : RefAt w r bf bz p cap S) (hA : Apart4 r bf bz p) (hb : BlocksIn w p' L) (hp : ∀ x, p' = some x → x.block ≠ r) (hle : L.length ≤ cap') :
    RefAt (w.setCell ⟨r, 4, none⟩ (.slice p' L.length cap')) r bf bz p' cap' { S with blocks := L } := by
  refine ⟨?_, ?_, ?_, ?_, hle⟩
  · simpa using heap_set h.hd 4 (.slice p' L.length cap')
  · obtain ⟨c, q1, q2, q3⟩ := h.sups
    exact ⟨c, (heap_set_ne hA.rf.symm _ _).trans q1, q2, q3⟩
  · obtain ⟨c, q1, q2, q3⟩ := h.bytes
    exact ⟨c, (heap_set_ne hA.rz.symm _ _).trans q1, q2, q3⟩
  · intro j hj
    obtain ⟨bb, c, f, q1, q2, q3⟩ := hb j hj
    exact ⟨bb, c, f, q1, (heap_set_ne (hp _ q1) _ _).trans q2, q3⟩

theorem zeroTo_len (l : List Int) (a k : Nat) : (Ti.zeroTo l a k).length = l.length := by
  induction k with
  | zero => rfl
  | succ k ih => simp [Ti.zeroTo, ih]

set_option maxRecDepth 100000 in
set_option maxHeartbeats 4000000 in
theorem put_any (w : World) (r bf bz cap : Nat) (p : Option Addr) (S : Ti.St) (a sz : Int) (hR : RefAt w r bf bz p cap S) (hB : Bd S) (hA : Apart4 r bf bz p) (ha : 0 ≤ a) (hz1 : 1 ≤ sz) (hz2 : sz ≤ 256) (hin : a + sz ≤ S.bytes.length) :
    Calls Tryd.prog 85 #[.pointer (some ⟨r, 0, none⟩), .agg #[.int .i64 a, .int .i64 sz]] w fun e w' => e = .returned (.int .i64 a) ∧
      ∃ p' cap', RefAt w' r bf bz p' cap' (S.put (a, sz)) ∧ (∀ x, p' = some x → w.heap.size ≤ x.block) ∧ Ext (two r bz) w w' := by
  have hl := hB.b1024
  have hrl := lt_of_heap hR.hd
  obtain ⟨i0, hi, hi0, hi1, hi2⟩ := info_parts infoBlock
  go_enter Tryd.func85, Tryd.ntmps85
  go_wp2
  go_loopw [5, 6, 7] (fun l inn i wr => ∃ k : Nat, k ≤ S.blocks.length ∧ i = .int .i64 k ∧ inn = .bool (insTo (a, sz) S.blocks k).2 ∧
      wr.ownsRow (w.heap.size + 1) 134 2 l (insTo (a, sz) S.blocks k).1.length (flat (insTo (a, sz) S.blocks k).1) ∧ Ext none1 w wr ∧ wr.heap[w.heap.size]? = some (.cells #[.int .i64 a, .int .i64 sz] 134 (0, 0)))
    (fun _ _ i _ => S.blocks.length - (intOf i).toNat)
  case atStart => exact ⟨0, Nat.zero_le _, rfl, rfl, World.ownsRow_nil _ _ _ _, (Ext.refl _ _).alloc _, heap_alloc_new _ _⟩
  case round =>
    obtain ⟨k, hk, rfl, rfl, hown, hE, hbox⟩ := hrel
    have hRr := hR.keep0 hE
    have hr := hRr.c2
    have hs0 := lt_of_heap hbox
    have hs1 := lt_of_heap hRr.hd
    have hil := insTo_len (a, sz) S.blocks k
    have m0 := cell_of hbox 0
    have m1 := cell_of hbox 1
    simp at m0 m1
    by_cases hlt : k < S.blocks.length
    · obtain ⟨bb, rfl, q1, q2⟩ := hRr.bc k hlt
      obtain ⟨z1, z2, z3, z4⟩ := hB.at0 k hlt
      have hst : Hid (insTo (a, sz) S.blocks (k + 1) = if (insTo (a, sz) S.blocks k).2 = false ∧ a < (Ti.bk S.blocks k).1 then ((insTo (a, sz) S.blocks k).1 ++ [(a, sz)] ++ [Ti.bk S.blocks k], true) else ((insTo (a, sz) S.blocks k).1 ++ [Ti.bk S.blocks k], (insTo (a, sz) S.blocks k).2)) := rfl
      generalize insTo (a, sz) S.blocks k = t at *
      obtain ⟨L, inn⟩ := t
      generalize hxk : Ti.bk S.blocks k = x at *
      obtain ⟨x1, x2⟩ := x
      have Hxk : Hid (Ti.bk S.blocks k = (x1, x2)) := hxk
      clear hxk
      dsimp only at *
      cases inn
      · by_cases hc : a < x1
        · have hst' : Hid (insTo (a, sz) S.blocks (k + 1) = (L ++ [(a, sz)] ++ [(x1, x2)], true)) := by show _ = _; rw [hst.out, if_pos ⟨rfl, hc⟩]
          clear hst
          go_wp2
          go_region
          go_wp2_with (first
            | (at_builtin; refine wp_app rfl (.tmp 33) (.tmp 35) rfl (w.heap.size + 1) _ L rfl (by exact (hown.alloc _).drew) wr.heap.size (a, sz) rfl (by simp) (by simp) (by omega) (by simp; omega) ?_; intro v1 w1 hown1 hgrow1; obtain ⟨hE1, hbox1⟩ := app_step (hE.alloc _).drew (((Below.heap_alloc _ _ _ hs0).trans hbox)) (hown.alloc _).drew hgrow1; have hR1 := hR.keep0 hE1; have hr1 := hR1.c2; obtain ⟨_, rr, q3, q4⟩ := hR1.bc k hlt; cases rr; rw [Hxk.out] at q3 q4; have hs3 := lt_of_heap hbox1)
            | (at_builtin; refine wp_app rfl (.tmp 37) (.tmp 45) rfl (w.heap.size + 1) _ (L ++ [(a, sz)]) rfl (by exact hown1.alloc _) w1.heap.size (x1, x2) rfl (by simp) (by simp) (by simp; omega) (by simp; omega) ?_; intro v2 w2 hown2 hgrow2))
          have R2 := app_step (hE1.alloc _) ((Below.heap_alloc _ _ _ hs3).trans hbox1) (hown1.alloc _) hgrow2
          go_roundw
          case rel => exact ⟨k + 1, by omega, by go_num, by rw [hst'.out], by rw [hst'.out]; exact hown2, R2.1, R2.2⟩
          case measure => simp [intOf]; omega
        · have hst' : Hid (insTo (a, sz) S.blocks (k + 1) = (L ++ [(x1, x2)], false)) := by show _ = _; rw [hst.out, if_neg (by simp [hc])]
          clear hst
          go_wp2
          go_region
          go_wp2_with (at_builtin; refine wp_app rfl (.tmp 37) (.tmp 45) rfl (w.heap.size + 1) _ L rfl (by exact (hown.alloc _).drew) wr.heap.size (x1, x2) rfl (by simp) (by simp) (by omega) (by simp; omega) ?_; intro v1 w1 hown1 hgrow1)
          have R := app_step (hE.alloc _).drew (((Below.heap_alloc _ _ _ hs0).trans hbox)) (hown.alloc _).drew hgrow1
          go_roundw
          case rel => exact ⟨k + 1, by omega, by go_num, by rw [hst'.out], by rw [hst'.out]; exact hown1, R.1, R.2⟩
          case measure => simp [intOf]; omega
      · have hst' : Hid (insTo (a, sz) S.blocks (k + 1) = (L ++ [(x1, x2)], true)) := by show _ = _; rw [hst.out, if_neg (by simp)]
        clear hst
        go_wp2
        go_region
        go_wp2_with (at_builtin; refine wp_app rfl (.tmp 37) (.tmp 45) rfl (w.heap.size + 1) _ L rfl (by exact (hown.alloc _).drew) wr.heap.size (x1, x2) rfl (by simp) (by simp) (by omega) (by simp; omega) ?_; intro v1 w1 hown1 hgrow1)
        have R := app_step (hE.alloc _).drew (((Below.heap_alloc _ _ _ hs0).trans hbox)) (hown.alloc _).drew hgrow1
        go_roundw
        case rel => exact ⟨k + 1, by omega, by go_num, by rw [hst'.out], by rw [hst'.out]; exact hown1, R.1, R.2⟩
        case measure => simp [intOf]; omega
    · have e : k = S.blocks.length := by omega
      subst e
      have hsp := insTo_spec (a, sz) S.blocks S.blocks.length (Nat.le_refl _)
      rw [List.take_length] at hsp
      obtain ⟨an, rfl⟩ := Int.eq_ofNat_of_zero_le ha
      obtain ⟨zn, rfl⟩ := Int.eq_ofNat_of_zero_le (show 0 ≤ sz by omega)
      have hz := hB.bz
      have hf16 := hB.f16
      cases hin2 : (insTo ((an : Int), (zn : Int)) S.blocks S.blocks.length).2
      · obtain ⟨e1, e2⟩ := hsp.2 hin2
        rw [e1] at hown
        have Hins : Hid (Ti.ins ((an : Int), (zn : Int)) S.blocks = S.blocks ++ [((an : Int), (zn : Int))]) := ins_none ((an : Int), (zn : Int)) S.blocks e2
        clear hsp e1 e2 hin2 hil
        go_wp2_with (at_builtin; refine wp_app rfl (.tmp 49) (.tmp 51) rfl (w.heap.size + 1) _ S.blocks rfl (by exact hown.alloc _) wr.heap.size ((an : Int), (zn : Int)) rfl (by simp) (by simp) (by omega) (by simp; omega) ?_; intro v1 w1 hown1 hgrow1; obtain ⟨hE1, hbox1⟩ := app_step (hE.alloc _) (((Below.heap_alloc _ _ _ hs0).trans hbox)) (hown.alloc _) hgrow1; rw [← Hins.out] at hown1; obtain ⟨p1, cap1, rfl, hbl1, hp1, hle1⟩ := blocksIn_of_owns hown1; have hR1 := hR.keep0 hE1; have hr1 : w1.cell? ⟨r, 4, none⟩ = _ := hR1.c2; have hf1 := frozen_of hR1.hd 4)
        have hA1 : Apart4 r bf bz p1 := ⟨hA.rf, hA.rz, hA.fz, fun x hx => by
          have h1 := (hp1 x hx).1
          have h2 := lt_of_heap hR.hd
          obtain ⟨_, h3, _⟩ := hR.sups
          obtain ⟨_, h4, _⟩ := hR.bytes
          have h3 := lt_of_heap h3
          have h4 := lt_of_heap h4
          exact ⟨by omega, by omega, by omega⟩⟩
        have hR2 := hR1.setBlocks (cap' := cap1) hA hbl1 (fun x hx => (hA1.pr x hx).1) hle1
        have hE2 : Ext (two r bz) w (w1.setCell ⟨r, 4, none⟩ (.slice p1 (Ti.ins ((an : Int), (zn : Int)) S.blocks).length cap1)) := (hE1.mono (fun _ _ x => x.elim)).setCell ⟨r, 4, none⟩ (.inl (.inl rfl)) _
        have hbox2 : (w1.setCell ⟨r, 4, none⟩ (.slice p1 (Ti.ins ((an : Int), (zn : Int)) S.blocks).length cap1)).heap[w.heap.size]? = some (.cells #[.int .i64 an, .int .i64 zn] 134 (0, 0)) := (heap_set_ne (by omega) _ _).trans hbox1
        generalize (w1.setCell ⟨r, 4, none⟩ (.slice p1 (Ti.ins ((an : Int), (zn : Int)) S.blocks).length cap1)) = W2 at *
        have hb0 : Bd S := hB
        go_loopw [8] (fun i wq => ∃ j : Nat, j ≤ zn ∧ i = .int .i64 j ∧ RefAt wq r bf bz p1 cap1 { S with blocks := Ti.ins ((an : Int), (zn : Int)) S.blocks, bytes := Ti.zeroTo S.bytes an j } ∧ Ext (two r bz) w wq ∧
            wq.heap[w.heap.size]? = some (.cells #[.int .i64 an, .int .i64 zn] 134 (0, 0))) (fun i _ => zn - (intOf i).toNat)
        case atStart => exact ⟨0, Nat.zero_le _, rfl, hR2, hE2, hbox2⟩
        case round =>
          obtain ⟨j, hj, rfl, hRq, hEq, hbq⟩ := hrel
          have y0 := cell_of hbq 0
          have y1 := cell_of hbq 1
          simp at y0 y1
          have yr := hRq.c3
          rw [zeroTo_len] at yr
          by_cases hjz : j < zn
          · obtain ⟨hc1, hc2⟩ := hRq.zc (an + j) (by rw [zeroTo_len]; omega)
            have hz5 : (an : Int) + (j : Int) < S.bytes.length := by omega
            have hz6 : an + j < S.bytes.length := by omega
            have hRn : Hid (RefAt (wr.setCell ⟨bz, an + j, none⟩ (.int .i64 0)) r bf bz p1 cap1 { S with blocks := Ti.ins ((an : Int), (zn : Int)) S.blocks, bytes := Ti.zeroTo S.bytes an (j + 1) }) := hRq.setByte hA1 (an + j) 0 (by rw [zeroTo_len]; exact hz6)
            have hz7 : S.bytes.length ≤ 1024 := by omega
            clear hin hz
            go_wp2
            go_region
            go_wp2
            go_roundw
            case rel => exact ⟨j + 1, by omega, by go_num, hRn.out.drew, (hEq.setCell ⟨bz, an + j, none⟩ (.inl (.inr rfl)) _).drew, (heap_set_ne (fun e => by obtain ⟨_, h4, _⟩ := hR.bytes; have h4 := lt_of_heap h4; omega) _ _).trans hbq⟩
            case measure => simp [intOf]; omega
          · have e : j = zn := by omega
            subst e
            go_wp2
            go_ret
            exact ⟨rfl, p1, cap1, by simpa [Ti.St.put] using hRq, fun x hx => by have := (hp1 x hx).1; omega, hEq⟩
      · obtain ⟨e1, e2⟩ := hsp.1 hin2
        rw [e1] at hown
        have hE1 := hE
        have hbox1 := hbox
        obtain ⟨p1, cap1, rfl, hbl1, hp1, hle1⟩ := blocksIn_of_owns hown
        have hR1 := hRr
        have hr1 : wr.cell? ⟨r, 4, none⟩ = _ := hR1.c2
        have hf1 := frozen_of hR1.hd 4
        rename World => w1
        clear hsp e1 e2 hin2 hil
        go_wp2
        have hA1 : Apart4 r bf bz p1 := ⟨hA.rf, hA.rz, hA.fz, fun x hx => by
          have h1 := (hp1 x hx).1
          have h2 := lt_of_heap hR.hd
          obtain ⟨_, h3, _⟩ := hR.sups
          obtain ⟨_, h4, _⟩ := hR.bytes
          have h3 := lt_of_heap h3
          have h4 := lt_of_heap h4
          exact ⟨by omega, by omega, by omega⟩⟩
        have hR2 := hR1.setBlocks (cap' := cap1) hA hbl1 (fun x hx => (hA1.pr x hx).1) hle1
        have hE2 : Ext (two r bz) w (w1.setCell ⟨r, 4, none⟩ (.slice p1 (Ti.ins ((an : Int), (zn : Int)) S.blocks).length cap1)) := (hE1.mono (fun _ _ x => x.elim)).setCell ⟨r, 4, none⟩ (.inl (.inl rfl)) _
        have hbox2 : (w1.setCell ⟨r, 4, none⟩ (.slice p1 (Ti.ins ((an : Int), (zn : Int)) S.blocks).length cap1)).heap[w.heap.size]? = some (.cells #[.int .i64 an, .int .i64 zn] 134 (0, 0)) := (heap_set_ne (by omega) _ _).trans hbox1
        generalize (w1.setCell ⟨r, 4, none⟩ (.slice p1 (Ti.ins ((an : Int), (zn : Int)) S.blocks).length cap1)) = W2 at *
        have hb0 : Bd S := hB
        go_loopw [8] (fun i wq => ∃ j : Nat, j ≤ zn ∧ i = .int .i64 j ∧ RefAt wq r bf bz p1 cap1 { S with blocks := Ti.ins ((an : Int), (zn : Int)) S.blocks, bytes := Ti.zeroTo S.bytes an j } ∧ Ext (two r bz) w wq ∧
            wq.heap[w.heap.size]? = some (.cells #[.int .i64 an, .int .i64 zn] 134 (0, 0))) (fun i _ => zn - (intOf i).toNat)
        case atStart => exact ⟨0, Nat.zero_le _, rfl, hR2, hE2, hbox2⟩
        case round =>
          obtain ⟨j, hj, rfl, hRq, hEq, hbq⟩ := hrel
          have y0 := cell_of hbq 0
          have y1 := cell_of hbq 1
          simp at y0 y1
          have yr := hRq.c3
          rw [zeroTo_len] at yr
          by_cases hjz : j < zn
          · obtain ⟨hc1, hc2⟩ := hRq.zc (an + j) (by rw [zeroTo_len]; omega)
            have hz5 : (an : Int) + (j : Int) < S.bytes.length := by omega
            have hz6 : an + j < S.bytes.length := by omega
            have hRn : Hid (RefAt (wr.setCell ⟨bz, an + j, none⟩ (.int .i64 0)) r bf bz p1 cap1 { S with blocks := Ti.ins ((an : Int), (zn : Int)) S.blocks, bytes := Ti.zeroTo S.bytes an (j + 1) }) := hRq.setByte hA1 (an + j) 0 (by rw [zeroTo_len]; exact hz6)
            have hz7 : S.bytes.length ≤ 1024 := by omega
            clear hin hz
            go_wp2
            go_region
            go_wp2
            go_roundw
            case rel => exact ⟨j + 1, by omega, by go_num, hRn.out.drew, (hEq.setCell ⟨bz, an + j, none⟩ (.inl (.inr rfl)) _).drew, (heap_set_ne (fun e => by obtain ⟨_, h4, _⟩ := hR.bytes; have h4 := lt_of_heap h4; omega) _ _).trans hbq⟩
            case measure => simp [intOf]; omega
          · have e : j = zn := by omega
            subst e
            go_wp2
            go_ret
            exact ⟨rfl, p1, cap1, by simpa [Ti.St.put] using hRq, fun x hx => by have := (hp1 x hx).1; omega, hEq⟩
end Go.Proofs.YtbagfepdmmfegaaDoor
