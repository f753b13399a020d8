import Derived.Test.YtbagfepdmmfegaaDoorK23
import Derived.Test.YtbagfepdmmfegaaDoorK18
import Derived.Test.YtbagfepdmmfegaaDoorK17
import Derived.Test.YtbagfepdmmfegaaDoorK20
set_option linter.unusedVariables false
set_option linter.unusedSimpArgs false
/- THE STATEMENTS WITHOUT THE DOCUMENT'S ANSWER: their small functions. -/
namespace Go.Proofs.YtbagfepdmmfegaaDoor
open Go.RowKit

set_option maxHeartbeats 2000000 in
theorem pickK_any (c n : Int) (w : World) (c1 : -9223372036854775808 ≤ c) (c2 : c ≤ 9223372036854775807) (n1 : 0 < n) (n2 : n ≤ 9223372036854775807) :
    Calls Tryd.prog 20 #[.int .i64 c, .int .i64 n] w fun e w' => e = .returned (.int .i64 (pickI c n)) ∧ w = w' := by
  by_cases h : c < 0
  · have hd : pickI c n = (-(c + 1)) % n := if_pos h
    have ht : (-(c + 1)).tmod n = (-(c + 1)) % n := Int.tmod_eq_emod_of_nonneg (by omega)
    have hb : 0 ≤ (-(c + 1)) % n ∧ (-(c + 1)) % n < n := ⟨Int.emod_nonneg _ (by omega), Int.emod_lt_of_pos _ n1⟩
    go_enter Tryd.func20, Tryd.ntmps20
    go_wp2
    go_ret
    rw [hd]
    exact ⟨rfl, rfl⟩
  · have hd : pickI c n = c % n := if_neg h
    have hb : 0 ≤ c % n ∧ c % n < n := ⟨Int.emod_nonneg _ (by omega), Int.emod_lt_of_pos _ n1⟩
    go_enter Tryd.func20, Tryd.ntmps20
    go_wp2
    go_ret
    exact ⟨rfl, rfl⟩

/-- what a size is charged; 0: it is large -/
def chgOf (n : Int) : Int := if n ≤ 8 then 8 else if n ≤ 16 then 16 else if n ≤ 32 then 32 else 0
theorem charged_any (n : Int) (w : World) : Calls Tryd.prog 34 #[.int .i64 n] w fun e w' => e = .returned (.int .i64 (chgOf n)) ∧ w = w' := by
  unfold chgOf
  by_cases h1 : n ≤ 8
  · go_enter Tryd.func34, Tryd.ntmps34
    go_wp2
    go_ret
    exact ⟨rfl, rfl⟩
  · by_cases h2 : n ≤ 16
    · go_enter Tryd.func34, Tryd.ntmps34
      go_wp2
      go_ret
      exact ⟨rfl, rfl⟩
    · by_cases h3 : n ≤ 32
      · go_enter Tryd.func34, Tryd.ntmps34
        go_wp2
        go_ret
        exact ⟨rfl, rfl⟩
      · go_enter Tryd.func34, Tryd.ntmps34
        go_wp2
        go_ret
        exact ⟨rfl, rfl⟩
end Go.Proofs.YtbagfepdmmfegaaDoor

/- Is a block given, kept, and taken back at all? -/
namespace Go.Proofs.YtbagfepdmmfegaaDoor
open Go.RowKit

def aw0 : Ti.St := Ti.newSt 2 2 1
def aw1 : Ti.St := (aw0.malloc 3 10).2
def aw2 : Ti.St := (aw1.malloc 3 10).2
def aw3 : Ti.St := (aw2.store 25 200).2
def aw4 : Ti.St := (aw3.freeAt 0).2
def aw5 : Ti.St := (aw4.freeAt 0).2
theorem aw_1 : (aw0.malloc 3 10).1 = (0, 0) := by decide +kernel
theorem aw_2 : (aw1.malloc 3 10).1 = (16, 0) := by decide +kernel
theorem aw_3 : (aw2.store 25 200).1 = 0 := by decide +kernel
theorem aw_4 : aw3.load 25 = (200, 0) := by decide +kernel
theorem aw_5 : aw3.stats 2 1 = ((64, 32), 0) := by decide +kernel
theorem aw_6 : (aw3.freeAt 0).1 = 0 := by decide +kernel
theorem aw_7 : (aw4.freeAt 0).1 = 3 := by decide +kernel
theorem aw_8 : aw5.freeFrames = 1 := by decide +kernel

/-- one call more -/
theorem XPost.trans {PA : World → Nat → (Nat → Prop) → Ti.St → Prop} {W W1 W2 : World} {x : Nat} {fp fp1 : Nat → Prop} {S : Ti.St}
    (h1 : Ext fp W W1) (n1 : ∀ k, fp1 k → fp k ∨ (W.heap.size ≤ k ∧ k < W1.heap.size)) (h2 : XPost PA W1 W2 x fp1 S) : XPost PA W W2 x fp S := by
  obtain ⟨fp2, p, e, n⟩ := h2
  have s1 := h1.size
  have s2 := e.size
  refine ⟨fp2, p, h1.trans' e (fun k hk hq => ?_), fun k hk => ?_⟩
  · rcases n1 k hq with h | h
    · exact h
    · omega
  · rcases n k hk with h | h
    · rcases n1 k h with h | h
      · exact .inl h
      · exact .inr ⟨h.1, by omega⟩
    · exact .inr ⟨by omega, h.2⟩

set_option maxRecDepth 100000 in
set_option maxHeartbeats 4000000 in
theorem awake_any {PA : World → Nat → (Nat → Prop) → Ti.St → Prop} (F : Face PA True) (W : World) (hG : GlobAt W) (hw : 0 < W.heap.size) :
    Calls Tryd.prog 27 #[] W fun e W' => e = .returned (.bool true) ∧ Ext none1 W W' := by
  have hI0 : Ti.Inv aw0 := Ti.inv_new 2 1 2 (by omega) (by omega) (by omega) (by omega) (by omega) (by omega)
  have hI1 : Ti.Inv aw1 := Ti.inv_malloc _ hI0 _ _
  have hI2 : Ti.Inv aw2 := Ti.inv_malloc _ hI1 _ _
  have hI3 : Ti.Inv aw3 := Ti.inv_store _ hI2 _ _
  have hI4 : Ti.Inv aw4 := Ti.inv_free _ hI3 _
  have hI5 : Ti.Inv aw5 := Ti.inv_free _ hI4 _
  go_enter Tryd.func27, Tryd.ntmps27
  go_wp2_with fail
  refine (F.new _ 2 2 1 hG (by decide +kernel)).mono ?_
  rintro e W0 ⟨x, fp, rfl, hp, hE0, hfp⟩
  have hp : PA W0 x fp aw0 := hp
  go_wp2_with fail
  refine (F.malloc W0 x fp aw0 3 10 hp hI0 (.inr trivial)).mono ?_
  rintro e W1 ⟨rfl, fp1, hp1, hE1, hn1⟩
  simp only [aw_1]
  have hp1 : PA W1 x fp1 aw1 := hp1
  go_wp2_with fail
  refine (F.malloc W1 x fp1 aw1 3 10 hp1 hI1 (.inr trivial)).mono ?_
  rintro e W2 ⟨rfl, hX2⟩
  obtain ⟨fp2, hp2, hE2, hn2⟩ := XPost.trans hE1 hn1 hX2
  simp only [aw_2]
  have hp2 : PA W2 x fp2 aw2 := hp2
  go_wp2_with fail
  refine (F.store W2 x fp2 aw2 25 200 hp2 hI2 (by omega) (by omega)).mono ?_
  rintro e W3 ⟨rfl, hX3⟩
  obtain ⟨fp3, hp3, hE3, hn3⟩ := XPost.trans hE2 hn2 hX3
  simp only [aw_3]
  have hp3 : PA W3 x fp3 aw3 := hp3
  go_wp2_with fail
  refine (F.load W3 x fp3 aw3 25 hp3 hI3 (by omega) (by omega)).mono ?_
  rintro e W4 ⟨rfl, hX4⟩
  obtain ⟨fp4, hp4, hE4, hn4⟩ := XPost.trans hE3 hn3 hX4
  simp only [aw_4]
  go_wp2_with fail
  refine (F.stats W4 x fp4 aw3 2 1 hp4 hI3).mono ?_
  rintro e W5 ⟨rfl, hE5⟩
  simp only [aw_5]
  go_wp2_with fail
  have hb5 := heap_alloc_new W5 (.cells #[.int .i64 64, .int .i64 32] 44)
  have hE5' : Ext none1 W4 (W5.alloc (.cells #[.int .i64 64, .int .i64 32] 44)) := hE5.alloc _
  have hsz : (W5.alloc (.cells #[.int .i64 64, .int .i64 32] 44)).heap.size = W5.heap.size + 1 := by simp
  have hs5 := hE5.size
  have hs4 := hE4.size
  have hb4 : ∀ k, fp4 k → k < W4.heap.size := fun k hk => by
    rcases hn4 k hk with h | h
    · have := (hfp k h).2; omega
    · exact h.2
  generalize W5.alloc (.cells #[.int .i64 64, .int .i64 32] 44) = V5 at *
  generalize W5.heap.size = bx at *
  have hp5 := F.keep hp4 hE5' (fun _ _ x => x) (fun x => x)
  refine (F.free V5 x fp4 aw3 0 hp5 hI3).mono ?_
  rintro e W6 ⟨rfl, fp6, hp6, hE6, hn6⟩
  simp only [aw_6]
  have hp6 : PA W6 x fp6 aw4 := hp6
  have hb6 := hE6.keep hb5 (fun hq => by have := hb4 _ hq; omega)
  have hs6 := hE6.size
  have hq6 : ¬ fp6 bx := fun hq => by
    rcases hn6 _ hq with h | h
    · have := hb4 _ h; omega
    · omega
  go_wp2_with fail
  refine (F.free W6 x fp6 aw4 0 hp6 hI4).mono ?_
  rintro e W7 ⟨rfl, fp7, hp7, hE7, hn7⟩
  simp only [aw_7]
  have hp7 : PA W7 x fp7 aw5 := hp7
  have hb7 := hE7.keep hb6 hq6
  go_wp2_with fail
  refine (F.frames W7 x fp7 aw5 hp7 hI5).mono ?_
  rintro e W8 ⟨rfl, hE8⟩
  simp only [aw_8]
  have hb8 := hE8.keep hb7 (fun x => x)
  have hs0 := hE0.size
  have hEnd : Ext none1 W W8 := by
    have g4 : ∀ k, fp4 k → W.heap.size ≤ k := fun k hk => by
      rcases hn4 k hk with h | h
      · exact (hfp k h).1
      · omega
    have g6 : ∀ k, fp6 k → W.heap.size ≤ k := fun k hk => by
      rcases hn6 k hk with h | h
      · exact g4 k h
      · omega
    have t : Ext (fun k => W.heap.size ≤ k) W W8 :=
      (((((hE0.mono (fun _ _ x => x.elim)).trans (hE4.mono (fun k _ hk => (hfp k hk).1))).trans (hE5'.mono (fun _ _ x => x.elim))).trans (hE6.mono (fun k _ hk => g4 k hk))).trans (hE7.mono (fun k _ hk => g6 k hk))).trans (hE8.mono (fun _ _ x => x.elim))
    exact t.mono (fun k hk hq => by omega)
  have c0 := cell_of hb8 0
  have c1 := cell_of hb8 1
  simp at c0 c1
  go_wp2_with fail
  go_ret
  exact ⟨rfl, hEnd⟩
end Go.Proofs.YtbagfepdmmfegaaDoor

/- A FARM IS OPENED. -/
namespace Go.Proofs.YtbagfepdmmfegaaDoor
open Go.RowKit

set_option maxRecDepth 100000 in
set_option maxHeartbeats 4000000 in
theorem opened_any {PA : World → Nat → (Nat → Prop) → Ti.St → Prop} (F : Face PA True) (W : World) (hG : GlobAt W) (hw : 0 < W.heap.size) (h n s : Int)
    (h0 : -9223372036854775808 ≤ h) (h1 : h ≤ 9223372036854775807) (n0 : -9223372036854775808 ≤ n) (n1 : n ≤ 9223372036854775807) (s0 : -9223372036854775808 ≤ s) (s1 : s ≤ 9223372036854775807) :
    Calls Tryd.prog 14 #[.agg #[.int .i64 h, .int .i64 n, .int .i64 s]] W fun e W' => ∃ fl x fp, e = .returned (.pointer (some ⟨fl, 0, none⟩)) ∧
      PA W' x fp (Ti.newSt (1 + pickI h 4) (1 + pickI n 16) (1 + pickI s 4)) ∧ Ext none1 W W' ∧ (∀ k, fp k → W.heap.size ≤ k ∧ k < fl) ∧ W.heap.size ≤ fl ∧
      W'.heap[fl]? = some (.cells #[.pointer (some ⟨x, 0, none⟩), .int .i64 (1 + pickI h 4), .int .i64 (1 + pickI n 16), .int .i64 (1 + pickI s 4), .slice none 0 0] 37 (0, 0)) := by
  have ph := pickI_bd h 4 (by omega)
  have pn := pickI_bd n 16 (by omega)
  have ps := pickI_bd s 4 (by omega)
  have Hp : Hid (∀ c m w, -9223372036854775808 ≤ c → c ≤ 9223372036854775807 → 0 < m → m ≤ 9223372036854775807 → Calls Tryd.prog 20 #[.int .i64 c, .int .i64 m] w fun e w' => e = .returned (.int .i64 (pickI c m)) ∧ w = w') := fun c m w c1 c2 n1 n2 => pickK_any c m w c1 c2 n1 n2
  go_enter Tryd.func14, Tryd.ntmps14
  go_wp2_with fail
  have hb0 := heap_alloc_new W (.cells #[.int .i64 h, .int .i64 n, .int .i64 s] 26)
  have hE0 : Ext none1 W (W.alloc (.cells #[.int .i64 h, .int .i64 n, .int .i64 s] 26)) := (Ext.refl _ _).alloc _
  generalize W.alloc (.cells #[.int .i64 h, .int .i64 n, .int .i64 s] 26) = W0 at *
  refine (awake_any F W0 (hG.keep hE0 (fun x => x)) (Nat.lt_of_lt_of_le hw hE0.size)).mono ?_
  rintro e W1 ⟨rfl, hE1⟩
  have hb1 := hE1.keep hb0 (fun x => x)
  have c0 := cell_of hb1 0
  have c1 := cell_of hb1 1
  have c2 := cell_of hb1 2
  simp at c0 c1 c2
  have hs0 := lt_of_heap hb1
  have hcc : ∀ (w' : World) (o : Nat), Ext none1 W1 w' → w'.cell? ⟨W.heap.size, o, none⟩ = W1.cell? ⟨W.heap.size, o, none⟩ := fun w' o hE => by
    unfold World.cell?
    simp only [hE.block _ hs0 (fun x => x)]
  have Hb : Hid ((W1.alloc (.cells #[.int .i64 (1 + pickI h 4), .int .i64 (1 + pickI n 16), .int .i64 (1 + pickI s 4)] 26)).drew.heap[W1.heap.size]? = some (.cells #[.int .i64 (1 + pickI h 4), .int .i64 (1 + pickI n 16), .int .i64 (1 + pickI s 4)] 26)) := heap_alloc_new W1 _
  have HE2 : Hid (Ext none1 W (W1.alloc (.cells #[.int .i64 (1 + pickI h 4), .int .i64 (1 + pickI n 16), .int .i64 (1 + pickI s 4)] 26)).drew) := (hE0.trans hE1).trans ((Ext.refl _ _).alloc _).drew
  have HG : Hid (GlobAt (W1.alloc (.cells #[.int .i64 (1 + pickI h 4), .int .i64 (1 + pickI n 16), .int .i64 (1 + pickI s 4)] 26)).drew) := hG.keep HE2.out (fun x => x)
  have Hok : Hid (Ti.okConfig (1 + pickI h 4) (1 + pickI n 16) (1 + pickI s 4) = true) := by
    show Ti.okConfig (1 + pickI h 4) (1 + pickI n 16) (1 + pickI s 4) = true
    unfold Ti.okConfig
    simp only [Bool.and_eq_true, decide_eq_true_eq]
    omega
  go_wp2_with fail
  go_region_held3 (fun w' => Ext none1 W1 w') (first | assumption | exact (Ext.refl _ _).drew | exact ((Ext.refl _ _).alloc _).drew | exact (Ext.drew (Ext.refl _ _)).alloc _ | exact Ext.alloc (by assumption) _)
    (first | (go_at_call 20; refine Calls.mono (Hp.out _ _ _ (by assumption) (by assumption) (by decide) (by decide)) ?_; rintro e w' ⟨rfl, rfl⟩))
  all_goals go_wp2_with fail
  all_goals refine (F.new _ _ _ _ HG.out Hok.out).mono ?_
  all_goals rintro e W3 ⟨x, fp, rfl, hp, hE3, hfp⟩
  all_goals have hb3 := hE3.keep Hb.out (fun x => x)
  all_goals have d0 := cell_of hb3 0
  all_goals have d1 := cell_of hb3 1
  all_goals have d2 := cell_of hb3 2
  all_goals simp at d0 d1 d2
  all_goals go_wp2_with fail
  all_goals go_ret
  all_goals
    have hsz := HE2.out.size
    have hs3 := hE3.size
    refine ⟨_, x, fp, rfl, F.keep hp ((Ext.refl none1 _).alloc _) (fun _ _ x => x) (fun x => x), (HE2.out.trans hE3).alloc _, fun k hk => ⟨Nat.le_trans hsz (hfp k hk).1, (hfp k hk).2⟩, Nat.le_trans hsz hs3, heap_alloc_new W3 _⟩
end Go.Proofs.YtbagfepdmmfegaaDoor

/- A FARM LIES THERE: a tithe, and what its users have. -/
namespace Go.Proofs.YtbagfepdmmfegaaDoor
open Go.RowKit

/-- a block that a user has, and where its bytes lie -/
structure Hb where
  b : Ti.Bl
  g : Nat
def encB (L : List Hb) : List Value := L.flatMap fun y => [.int .i64 y.b.at_, .int .i64 y.b.size, .slice (some ⟨y.g, 0, none⟩) y.b.size.toNat y.b.size.toNat]
theorem encB_append (a b : List Hb) : encB (a ++ b) = encB a ++ encB b := by simp [encB]
theorem encB_len (L : List Hb) : (encB L).length = L.length * 3 := by
  induction L with
  | nil => rfl
  | cons y r ih => simp only [encB, List.flatMap_cons, List.length_append, List.length_cons] at ih ⊢; simp only [List.length_nil] at ih ⊢; omega
theorem encB_get (L : List Hb) (i : Nat) (y : Hb) (hi : L[i]? = some y) : (encB L)[i * 3]? = some (.int .i64 y.b.at_) ∧ (encB L)[i * 3 + 1]? = some (.int .i64 y.b.size) ∧ (encB L)[i * 3 + 2]? = some (.slice (some ⟨y.g, 0, none⟩) y.b.size.toNat y.b.size.toNat) := by
  induction L generalizing i with
  | nil => cases hi
  | cons c t ih =>
    have e : encB (c :: t) = [.int .i64 c.b.at_, .int .i64 c.b.size, .slice (some ⟨c.g, 0, none⟩) c.b.size.toNat c.b.size.toNat] ++ encB t := by simp [encB]
    cases i with
    | zero =>
      obtain rfl : c = y := by simpa using hi
      rw [e]; exact ⟨rfl, rfl, rfl⟩
    | succ i =>
      have := ih i (by simpa using hi)
      rw [e, show (i + 1) * 3 = 3 + i * 3 by omega]
      refine ⟨?_, ?_, ?_⟩
      · rw [List.getElem?_append_right (by simp)]; simpa using this.1
      · rw [List.getElem?_append_right (by simp; omega), show 3 + i * 3 + 1 - [Value.int .i64 c.b.at_, .int .i64 c.b.size, .slice (some ⟨c.g, 0, none⟩) c.b.size.toNat c.b.size.toNat].length = i * 3 + 1 by simp; omega]; exact this.2.1
      · rw [List.getElem?_append_right (by simp; omega), show 3 + i * 3 + 2 - [Value.int .i64 c.b.at_, .int .i64 c.b.size, .slice (some ⟨c.g, 0, none⟩) c.b.size.toNat c.b.size.toNat].length = i * 3 + 2 by simp; omega]; exact this.2.2
theorem oneCell_encB (L : List Hb) : ∀ u ∈ encB L, u.oneCell' = true := by
  intro u hu
  obtain ⟨y, _, hy⟩ := List.mem_flatMap.1 hu
  simp at hy
  rcases hy with rfl | rfl | rfl <;> rfl

structure FarmAt (PA : World → Nat → (Nat → Prop) → Ti.St → Prop) (W : World) (fl base : Nat) (foot : Nat → Prop) (S : Ti.St) (L : List Hb) : Prop where
  box : ∃ x v fp, W.heap[fl]? = some (.cells #[.pointer (some ⟨x, 0, none⟩), .int .i64 S.heaps, .int .i64 (S.sups.length : Nat), .int .i64 S.slack, v] 37 (0, 0)) ∧ PA W x fp S ∧
    W.ownsRow base 40 3 v L.length (encB L) ∧ (∀ k, fp k → foot k) ∧ ¬ fp fl ∧ (∀ y ∈ L, ¬ fp y.g) ∧ ∀ g, v.ownBlock = some g → foot g ∧ ¬ fp g ∧ ∀ y ∈ L, y.g ≠ g
  flt : ∀ k, foot k → k < W.heap.size
  ffl : foot fl
  fpos : ¬ foot 0
  low : fl < base
  rows : ∀ y ∈ L, base ≤ y.g ∧ foot y.g ∧ W.heap[y.g]? = some (.cells (y.b.bytes.map (Value.int .i64)).toArray 3 (0, 0))
  dist : L.Pairwise (fun a b => a.g ≠ b.g)
  ok : Ti.FarmOk S (L.map Hb.b)

theorem FarmAt.keep {PA : World → Nat → (Nat → Prop) → Ti.St → Prop} {big : Prop} (F : Face PA big) {W W' : World} {fl base : Nat} {foot X : Nat → Prop} {S : Ti.St} {L : List Hb} (h : FarmAt PA W fl base foot S L) (hE : Ext X W W') (hx : ∀ k, foot k → ¬ X k) (h0 : ¬ X 0) : FarmAt PA W' fl base foot S L := by
  obtain ⟨x, v, fp, b1, b2, b3, b4, b5, b6, b7⟩ := h.box
  refine ⟨⟨x, v, fp, hE.keep b1 (hx _ h.ffl), F.keep b2 hE (fun k hk => hx k (b4 k hk)) h0, ownsRow_ext b3 hE (fun g hg => hx g (b7 g hg).1), b4, b5, b6, b7⟩, fun k hk => Nat.lt_of_lt_of_le (h.flt k hk) hE.size, h.ffl, h.fpos, h.low, fun y hy => ?_, h.dist, h.ok⟩
  obtain ⟨r1, r2, r3⟩ := h.rows y hy
  exact ⟨r1, r2, hE.keep r3 (hx _ r2)⟩

/-- there are not many blocks -/
theorem sorted_len (l : List (Int × Int)) (lo n : Int) (hs : l.Pairwise (fun a b => a.1 < b.1)) (h : ∀ b ∈ l, lo ≤ b.1 ∧ b.1 < n) (hln : lo ≤ n) : (l.length : Int) ≤ n - lo := by
  induction l generalizing lo with
  | nil => simp; omega
  | cons x r ih =>
    obtain ⟨h1, h2⟩ := List.pairwise_cons.1 hs
    have hx := h x (List.mem_cons_self ..)
    have := ih (x.1 + 1) h2 (fun b hb => ⟨by have := h1 b hb; omega, (h b (List.mem_cons_of_mem _ hb)).2⟩) (by omega)
    simp only [List.length_cons]
    omega
theorem FarmAt.few {PA : World → Nat → (Nat → Prop) → Ti.St → Prop} {W : World} {fl base : Nat} {foot : Nat → Prop} {S : Ti.St} {L : List Hb} (h : FarmAt PA W fl base foot S L) : L.length ≤ 1024 := by
  have hI := h.ok.inv
  have h1 := h.ok.perm.length_eq
  simp only [List.length_map] at h1
  have h2 := sorted_len S.blocks 0 (64 * (S.sups.length : Int)) hI.sorted (fun b hb => by have := hI.ok b hb; exact ⟨this.2.2.1, this.2.2.2.1⟩) (by omega)
  have := hI.f16
  omega

/-- what a step leaves -/
def FarmPost (PA : World → Nat → (Nat → Prop) → Ti.St → Prop) (W W' : World) (fl base : Nat) (foot : Nat → Prop) (S : Ti.St) : Prop :=
  ∃ foot' S' L', FarmAt PA W' fl base foot' S' L' ∧ Ext foot W W' ∧ (∀ k, foot' k → foot k ∨ W.heap.size ≤ k) ∧ S'.heaps = S.heaps ∧ S'.slack = S.slack ∧ S'.sups.length = S.sups.length ∧
    (Ti.LeanOk S → Ti.LeanOk S') ∧ (Ti.LeanOk S → ∀ c, S'.tot c ≤ S.tot c ∨ S'.tot c ≤ 2 * S'.chg c + 64 * (S.heaps * S.slack + 1))

/-- a farm that was opened -/
theorem FarmAt.opened {PA : World → Nat → (Nat → Prop) → Ti.St → Prop} {W W' : World} {fl x : Nat} {fp : Nat → Prop} {h n s : Int} (hok : Ti.okConfig h n s = true) (hp : PA W' x fp (Ti.newSt h n s)) (hw : 0 < W.heap.size)
    (hfp : ∀ k, fp k → W.heap.size ≤ k ∧ k < fl) (hfl : W.heap.size ≤ fl) (hb : W'.heap[fl]? = some (.cells #[.pointer (some ⟨x, 0, none⟩), .int .i64 h, .int .i64 n, .int .i64 s, .slice none 0 0] 37 (0, 0))) :
    FarmAt PA W' fl (fl + 1) (fun k => fp k ∨ k = fl) (Ti.newSt h n s) [] := by
  have hlt := lt_of_heap hb
  have hk : 1 ≤ h ∧ h ≤ 4 ∧ 1 ≤ n ∧ n ≤ 16 ∧ 1 ≤ s ∧ s ≤ 4 := by
    unfold Ti.okConfig at hok
    simp only [Bool.and_eq_true, decide_eq_true_eq] at hok
    omega
  have hl : ((Ti.newSt h n s).sups.length : Int) = n := by
    simp only [Ti.newSt, List.length_replicate]; omega
  have hI : Ti.Inv (Ti.newSt h n s) := by
    have := Ti.inv_new h s n.toNat hk.1 hk.2.1 (by omega) (by omega) hk.2.2.2.2.1 hk.2.2.2.2.2
    rwa [Int.toNat_of_nonneg (by omega)] at this
  refine ⟨⟨x, .slice none 0 0, fp, by rw [hl]; exact hb, hp, World.ownsRow_nil _ _ _ _, fun k hk => .inl hk, fun hc => ?_, by simp, by simp [Value.ownBlock]⟩, ?_, .inr rfl, ?_, Nat.lt_succ_self _, by simp, List.Pairwise.nil, ⟨hI, List.Perm.refl _, by simp, by simp⟩⟩
  · have := hfp _ hc; omega
  · rintro k (hk | rfl)
    · have := hfp k hk; omega
    · exact hlt
  · rintro (hk | hk)
    · have := hfp 0 hk; omega
    · omega
end Go.Proofs.YtbagfepdmmfegaaDoor

/- A STEP OF A FARM. -/
namespace Go.Proofs.YtbagfepdmmfegaaDoor
open Go.RowKit

theorem FarmPost.same {PA : World → Nat → (Nat → Prop) → Ti.St → Prop} {big : Prop} (F : Face PA big) {W W' : World} {fl base : Nat} {foot : Nat → Prop} {S : Ti.St} {L : List Hb} (h : FarmAt PA W fl base foot S L) (hE : Ext none1 W W') : FarmPost PA W W' fl base foot S :=
  ⟨foot, S, L, h.keep F hE (fun _ _ x => x) (fun x => x), hE.mono (fun _ _ x => x.elim), fun _ hk => .inl hk, rfl, rfl, rfl, id, fun _ _ => .inl (Int.le_refl _)⟩

set_option maxRecDepth 100000 in
set_option maxHeartbeats 4000000 in
theorem step_none {PA : World → Nat → (Nat → Prop) → Ti.St → Prop} {big : Prop} (F : Face PA big) (W : World) (fl base : Nat) (foot : Nat → Prop) (S : Ti.St) (hA : FarmAt PA W fl base foot S []) (k a b : Int) (hk : k = 1 ∨ k = 2) :
    Calls Tryd.prog 15 #[.pointer (some ⟨fl, 0, none⟩), .agg #[.int .i64 k, .int .i64 a, .int .i64 b]] W fun e W' => e = .returned (.bool true) ∧ FarmPost PA W W' fl base foot S := by
  have Hend : Hid (∀ W', Ext none1 W W' → FarmPost PA W W' fl base foot S) := fun W' hE => FarmPost.same F hA hE
  obtain ⟨x, v, fp, b1, b2, b3, _⟩ := hA.box
  have hv : v = .slice none 0 0 ∨ ∃ g cap, v = .slice (some ⟨g, 0, none⟩) 0 cap := by
    rcases b3.2 with h | ⟨g, cap, cur, hv, _⟩
    · exact .inl h.1
    · exact .inr ⟨g, cap, hv⟩
  have hlt := lt_of_heap b1
  rcases hk with rfl | rfl <;> rcases hv with rfl | ⟨g, cap, rfl⟩
  all_goals
    have c4 := cell_of b1 4
    simp at c4
    clear hA b1 b2 b3
    go_enter Tryd.func15, Tryd.ntmps15
    go_wp2
    go_ret
    exact ⟨rfl, Hend.out _ ((Ext.refl _ _).alloc _)⟩
end Go.Proofs.YtbagfepdmmfegaaDoor

/- A ROW OF BLOCKS MORE. -/
namespace Go.Proofs.YtbagfepdmmfegaaDoor
open Go.RowKit

theorem infoHb : (Tryd.prog.info? 40).map (fun i => (i.zero, i.size, i.bytes)) = some (some (.agg #[.int .i64 0, .int .i64 0, .slice none 0 0]), 3, 40) := by kernel_rfl

/-- 'append(l, row..)' -/
theorem run_appB (ty : TypeId) (W : World) (base : Nat) (v : Value) (A B : List Hb) (hown : W.ownsRow base 40 3 v A.length (encB A)) (g off c : Nat)
    (hc : ∀ j u, (encB B)[j]? = some u → W.cell? ⟨g, off + j, none⟩ = some u) (hn : A.length + B.length ≤ 2048) (hbase : base ≤ W.heap.size) :
    ∃ v' w', (Builtin.append_ #[35, 35] ty #[v, .slice (some ⟨g, off, none⟩) B.length c]).run Tryd.prog W = .ok v' w' ∧
      w'.ownsRow base 40 3 v' (A ++ B).length (encB (A ++ B)) ∧ W.grownBy w' v.ownBlock ∧ (v'.ownBlock = v.ownBlock ∨ v'.ownBlock = some W.heap.size) := by
  obtain ⟨i0, hi, hi0, hi1, hi2⟩ := info_parts infoHb
  obtain ⟨v', w', hr, h2, h3, _, h4⟩ := run_append_own_at (P := Tryd.prog) W base 35 ty 40 i0 _ 3 40 Tryd.underlying35 hi hi0 hi1 hi2 rfl (by decide) v A.length (encB A) hown ⟨g, off, none⟩ B.length c (encB B) (encB_len B)
    (fun j u hu => by rw [show (⟨g, off, none⟩ : Addr).add j = ⟨g, off + j, none⟩ by unfold Addr.add; split <;> simp_all]; exact hc j u hu) (oneCell_encB B) (by unfold maxLen; omega) (by omega) hbase
  refine ⟨v', w', hr, ?_, h3, h4⟩
  rw [encB_append, List.length_append]
  exact h2
end Go.Proofs.YtbagfepdmmfegaaDoor
