import Derived.Test.YtbagfepdmmfegaaDoorK08
import Derived.Test.YtbagfepdmmfegaaDoorK07
import Derived.Deep.RegionHeld3
set_option linter.unusedVariables false
set_option linter.unusedSimpArgs false
namespace Go.Proofs.YtbagfepdmmfegaaDoor
open Go.RowKit Go.Shelf

theorem sizeAt_mem (bs : List (Int × Int)) (hs : bs.Pairwise (fun a b => a.1 < b.1)) (b : Int × Int) (hb : b ∈ bs) : sizeAt bs b.1 = b.2 := by
  have h0 : 0 ≤ Ti.atI bs b.1 := (Ti.atI_nn bs b.1).2 ⟨b, hb, rfl⟩
  obtain ⟨h1, h2⟩ := Ti.atI_at bs b.1 h0
  obtain ⟨k, hk, e⟩ := Ti.mem_bk hb
  unfold sizeAt
  rw [if_pos h0]
  have : (Ti.atI bs b.1).toNat = k := by
    rcases Nat.lt_trichotomy (Ti.atI bs b.1).toNat k with h | h | h
    · have := Ti.bk_lt hs h hk; rw [h2, e] at this; omega
    · exact h
    · have := Ti.bk_lt hs h h1; rw [h2, e] at this; omega
  rw [this, e]
theorem sizeAt_ins (bs : List (Int × Int)) (hs : bs.Pairwise (fun a b => a.1 < b.1)) (b : Int × Int) (hn : ∀ x ∈ bs, x.1 ≠ b.1) (a : Int) : sizeAt (Ti.ins b bs) a = if a = b.1 then b.2 else sizeAt bs a := by
  have hs' := Ti.ins_sorted b bs hs hn
  by_cases e : a = b.1
  · rw [if_pos e, e]
    exact sizeAt_mem _ hs' b ((Ti.mem_ins b b bs).2 (.inl rfl))
  · rw [if_neg e]
    by_cases h : ∃ x ∈ bs, x.1 = a
    · obtain ⟨x, hx, ex⟩ := h
      rw [← ex, sizeAt_mem _ hs' x ((Ti.mem_ins b x bs).2 (.inr hx)), sizeAt_mem _ hs x hx]
    · rw [sizeAt_none bs a (fun x hx ex => h ⟨x, hx, ex⟩), sizeAt_none]
      intro x hx ex
      rcases (Ti.mem_ins b x bs).1 hx with rfl | hx
      · exact e ex.symm
      · exact h ⟨x, hx, ex⟩

theorem setCells_heap (w : World) (b : Nat) (c : Array Value) (T : TypeId) (f : Nat × Nat) : ∀ (n o : Nat) (w : World) (c : Array Value), w.heap[b]? = some (.cells c T f) → ∃ c', (w.setCells b o (List.replicate n (.int .u8 0))).heap[b]? = some (.cells c' T f) ∧ c'.size = c.size ∧ ∀ i, c'[i]? = if o ≤ i ∧ i < o + n ∧ i < c.size then some (.int .u8 0) else c[i]? := by
  intro n
  induction n with
  | zero => intro o w c h; exact ⟨c, h, rfl, fun i => by rw [if_neg (by omega)]⟩
  | succ n ih =>
    intro o w c h
    obtain ⟨c', h1, h2, h3⟩ := ih (o + 1) (w.setCell ⟨b, o, none⟩ (.int .u8 0)) _ (heap_set h o _)
    refine ⟨c', h1, by simpa using h2, fun i => ?_⟩
    rw [h3 i]
    simp only [Array.size_setIfInBounds]
    by_cases e : o = i
    · subst e
      rw [if_neg (by omega)]
      by_cases hi : o < c.size
      · rw [if_pos ⟨by omega, by omega, hi⟩]; simp [hi]
      · rw [if_neg (by omega), Array.getElem?_eq_none (by simp; omega), Array.getElem?_eq_none (by omega)]
    · rw [Array.getElem?_setIfInBounds_ne e]
      by_cases hi : o + 1 ≤ i ∧ i < o + 1 + n ∧ i < c.size
      · rw [if_pos hi, if_pos (by omega)]
      · rw [if_neg hi, if_neg (by omega)]
theorem setCells_heap_ne (b k : Nat) (hk : k ≠ b) : ∀ (l : List Value) (o : Nat) (w : World), (w.setCells b o l).heap[k]? = w.heap[k]?
  | [], _, _ => rfl
  | v :: r, o, w => (setCells_heap_ne b k hk r (o + 1) _).trans (heap_set_ne hk _ _)
theorem ext_setCells {X : Nat → Prop} {A : World} (b : Nat) (hb : X b) : ∀ (l : List Value) (o : Nat) (w : World), Ext X A w → Ext X A (w.setCells b o l)
  | [], _, _, h => h
  | _ :: r, o, _, h => ext_setCells b hb r (o + 1) _ (h.setCell ⟨b, o, none⟩ (.inl hb) _)

theorem zeroTo_get (l : List Int) (a n i : Nat) : (Ti.zeroTo l a n)[i]?.getD 0 = if a ≤ i ∧ i < a + n ∧ i < l.length then 0 else l[i]?.getD 0 := by
  induction n with
  | zero => rw [if_neg (by omega)]; rfl
  | succ n ih =>
    simp only [Ti.zeroTo]
    by_cases e : a + n = i
    · subst e
      by_cases hi : a + n < l.length
      · rw [List.getElem?_set_self (by rw [Ti.zeroTo_length]; exact hi), if_pos (by omega)]; rfl
      · rw [List.getElem?_eq_none (by simp [Ti.zeroTo_length]; omega), if_neg (by omega), List.getElem?_eq_none (by omega)]
    · rw [List.getElem?_set_ne e, ih]
      by_cases hi : a ≤ i ∧ i < a + n ∧ i < l.length
      · rw [if_pos hi, if_pos (by omega)]
      · rw [if_neg hi, if_neg (by omega)]

theorem covers_small (b : Int × Int) (hb : b.2 ≤ 32) (f : Int) : Ti.covers b f = false := by
  unfold Ti.covers
  rw [decide_eq_false (by omega)]; simp
theorem cover_mem (bs : List (Int × Int)) (f : Int) : Ti.coverTo bs f bs.length = true ↔ ∃ b ∈ bs, Ti.covers b f = true := by
  have h : ∀ n, n ≤ bs.length → (Ti.coverTo bs f n = true ↔ ∃ k, k < n ∧ Ti.covers (Ti.bk bs k) f = true) := by
    intro n
    induction n with
    | zero => intro _; simp [Ti.coverTo]
    | succ n ih =>
      intro hn
      simp only [Ti.coverTo, Bool.or_eq_true, ih (by omega)]
      constructor
      · rintro (⟨k, hk, e⟩ | e)
        · exact ⟨k, by omega, e⟩
        · exact ⟨n, by omega, e⟩
      · rintro ⟨k, hk, e⟩
        by_cases hkn : k = n
        · subst hkn; exact .inr e
        · exact .inl ⟨k, by omega, e⟩
  rw [h _ (Nat.le_refl _)]
  constructor
  · rintro ⟨k, hk, e⟩; exact ⟨_, Ti.bk_mem hk, e⟩
  · rintro ⟨b, hb, e⟩
    obtain ⟨k, hk, e2⟩ := Ti.mem_bk hb
    exact ⟨k, hk, by rw [e2]; exact e⟩
theorem cover_ins (bs : List (Int × Int)) (b : Int × Int) (f : Int) : Ti.coverTo (Ti.ins b bs) f (Ti.ins b bs).length = (Ti.covers b f || Ti.coverTo bs f bs.length) := by
  rw [Bool.eq_iff_iff, Bool.or_eq_true, cover_mem, cover_mem]
  constructor
  · rintro ⟨x, hx, e⟩
    rcases (Ti.mem_ins b x bs).1 hx with rfl | hx
    · exact .inl e
    · exact .inr ⟨x, hx, e⟩
  · rintro (e | ⟨x, hx, e⟩)
    · exact ⟨b, (Ti.mem_ins b b bs).2 (.inl rfl), e⟩
    · exact ⟨x, (Ti.mem_ins b x bs).2 (.inr hx), e⟩

/-- a slot used -/
theorem PrAt.putSlot {w : World} {m bf bz : Nat} {S : Ti.St} (h : PrAt w m bf bz S) (hne : m ≠ bf ∧ bf ≠ bz) (hs : S.blocks.Pairwise (fun a b => a.1 < b.1)) (f n : Nat) (a z c : Int) (hz : z ≤ 32) (hf : f < S.sups.length) (his : (S.sup f).is = true ∧ (S.sup f).cls = c)
    (hn : (n : Int) < Ti.slots c) (ha : a = 64 * f + n * Ti.width c) (hno : ∀ x ∈ S.blocks, x.1 ≠ a) :
    PrAt (w.setCell ⟨bf, f * 11 + 3 + n, none⟩ (.int .i64 z)) m bf bz { S with blocks := Ti.ins (a, z) S.blocks } := by
  have hw := Ti.width_slots c
  refine ⟨?_, ?_, ?_⟩
  · rw [heap_set_ne hne.1]
    exact h.hd
  · obtain ⟨cc, q1, q2, q3⟩ := h.fr
    refine ⟨_, heap_set q1 _ _, by simpa using q2, fun i hi => ?_⟩
    have hi' : i < S.sups.length := hi
    obtain ⟨a1, a2, a3, a4⟩ := q3 i hi'
    have hn8 : n < 8 := by omega
    have e0 : ({ S with blocks := Ti.ins (a, z) S.blocks } : Ti.St).sup i = S.sup i := rfl
    have e1 : pk { S with blocks := Ti.ins (a, z) S.blocks } i = pk S i := by
      unfold pk
      show (if (S.sup i).is = true then _ else if Ti.coverTo (Ti.ins (a, z) S.blocks) _ (Ti.ins (a, z) S.blocks).length = true then _ else _) = _
      rw [cover_ins, covers_small _ hz]; simp
    refine ⟨?_, ?_, ?_, fun j hj => ?_⟩
    · rw [Array.getElem?_setIfInBounds_ne (by omega), e1]; exact a1
    · rw [Array.getElem?_setIfInBounds_ne (by omega)]; exact a2
    · rw [Array.getElem?_setIfInBounds_ne (by omega)]; exact a3
    · have hsl : slotOf { S with blocks := Ti.ins (a, z) S.blocks } i j = if i = f ∧ j = n then z else slotOf S i j := by
        unfold slotOf
        rw [e0]
        show (if _ then sizeAt (Ti.ins (a, z) S.blocks) _ else if _ then sizeAt (Ti.ins (a, z) S.blocks) _ else _) = _
        rw [sizeAt_ins _ hs _ hno, sizeAt_ins _ hs _ hno]
        have hb2 := Ti.slot_bounds c n hn
        by_cases hc : (S.sup i).is = true ∧ (j : Int) < Ti.slots (S.sup i).cls
        · rw [if_pos hc, if_pos hc]
          have hb1 := Ti.slot_bounds (S.sup i).cls j hc.2
          by_cases e : i = f ∧ j = n
          · rw [if_pos e, if_pos]
            rw [e.1, e.2, his.2, ← ha]
          · rw [if_neg e, if_neg]
            intro hh
            have hh : 64 * (i : Int) + j * Ti.width (S.sup i).cls = a := hh
            apply e
            have ei : i = f := by omega
            subst ei
            refine ⟨rfl, ?_⟩
            rw [his.2] at hh hb1
            have : (j : Int) * Ti.width c = n * Ti.width c := by omega
            rcases hw with ⟨e, _⟩ | ⟨e, _⟩ | ⟨e, _⟩ <;> rw [e] at this <;> omega
        · rw [if_neg hc, if_neg hc, if_neg (c := i = f ∧ j = n)]
          · by_cases hd : (S.sup i).is = false ∧ j = 0
            · rw [if_pos hd, if_pos hd, if_neg]
              intro hh
              have hh : 64 * (i : Int) = a := hh
              have ei : i = f := by omega
              rw [ei, his.1] at hd
              cases hd.1
            · rw [if_neg hd, if_neg hd]
          · rintro ⟨rfl, rfl⟩
            exact hc ⟨his.1, by rw [his.2]; exact hn⟩
      rw [hsl]
      by_cases e : i = f ∧ j = n
      · rw [if_pos e, e.1, e.2]
        simp [show f * 11 + 3 + n < cc.size by omega]
      · rw [if_neg e, Array.getElem?_setIfInBounds_ne (by
          intro hh; apply e; omega)]
        exact a4 j hj
  · obtain ⟨cc, q1, q2, q3⟩ := h.bytes
    exact ⟨cc, (heap_set_ne hne.2.symm _ _).trans q1, q2, q3⟩

/-- bytes made 0 -/
theorem PrAt.zero {w : World} {m bf bz : Nat} {S : Ti.St} (h : PrAt w m bf bz S) (hne : m ≠ bf ∧ bf ≠ bz ∧ m ≠ bz) (an zn : Nat) :
    PrAt (w.setCells bz an (List.replicate zn (.int .u8 0))) m bf bz { S with bytes := Ti.zeroTo S.bytes an zn } := by
  refine ⟨?_, ?_, ?_⟩
  · rw [setCells_heap_ne _ _ hne.2.2]
    simpa [Ti.zeroTo_length] using h.hd
  · obtain ⟨cc, q1, q2, q3⟩ := h.fr
    exact ⟨cc, (setCells_heap_ne _ _ hne.2.1 _ _ _).trans q1, q2, q3⟩
  · obtain ⟨cc, q1, q2, q3⟩ := h.bytes
    obtain ⟨c', p1, p2, p3⟩ := setCells_heap w bz cc 5 (0, 0) zn an _ cc q1
    refine ⟨c', p1, by rw [p2, q2]; simp [Ti.zeroTo_length], fun k hk => ?_⟩
    have hk' : k < S.bytes.length := by simpa [Ti.zeroTo_length] using hk
    rw [p3 k]
    show _ = some (Value.int IntKind.u8 ((Ti.zeroTo S.bytes an zn)[k]?.getD 0))
    rw [zeroTo_get]
    by_cases e : an ≤ k ∧ k < an + zn ∧ k < cc.size
    · rw [if_pos e, if_pos (by omega)]
    · rw [if_neg e, if_neg (by omega)]; exact q3 k hk'

theorem infoByte : (Tryd.prog.info? 5).map (fun i => (i.zero, i.size, i.bytes)) = some (some (.int .u8 0), 1, 1) := by kernel_rfl

theorem run_clear (w : World) (b a n c : Nat) (ty : TypeId) (hn : 0 < n) (h1 : ∀ j, j < n → (w.cell? ⟨b, a + j, none⟩).isSome = true) (h2 : ∀ j, j < n → w.frozen? ⟨b, a + j, none⟩ = false) :
    (Builtin.clear_ #[93] ty #[.slice (some ⟨b, a, none⟩) n c]).run Tryd.prog w = .ok (.tuple #[]) (w.setCells b a (List.replicate n (.int .u8 0))) := by
  obtain ⟨i0, hi, hz, _, _⟩ := info_parts infoByte
  have hzc : (Builtin.zeroCells (Value.cells (.int .u8 0)) n).toList = List.replicate n (.int .u8 0) := by
    apply List.ext_getElem
    · simp [Builtin.zeroCells, Value.cells]
    · intro i q1 q2
      simp [Builtin.zeroCells, Value.cells, Nat.mod_one]
  have hr := run_storeCells_cells (P := Tryd.prog) b a (List.replicate n (.int .u8 0)) 0 w (by simpa using h1) (by simpa using h2) (by intro v hv; simp at hv; rw [hv.2]; rfl)
  obtain ⟨n', rfl⟩ : ∃ n', n = n' + 1 := ⟨n - 1, by omega⟩
  simp [Builtin.clear_, run_underlying Tryd.underlying93, zeroValue, typeInfo, hi, hz, hzc, hr]
end Go.Proofs.YtbagfepdmmfegaaDoor

namespace Go.Proofs.YtbagfepdmmfegaaDoor
open Go.RowKit Go.Shelf

def lowS {s : Nat → Int} {N : Nat} (x y : Sl s N) : Bool := decide ((x.1 : Int) < (y.1 : Int))

theorem sls_low (s : Nat → Int) (N k : Nat) (hk : k ≤ N) :
    match bestOf lowS (sls s N k) with
    | none => ∀ j, j < k → s j ≠ 0
    | some x => x.1 < k ∧ ∀ j, j < x.1 → s j ≠ 0 := by
  induction k with
  | zero => intro j hj; omega
  | succ k ih =>
    have ih := ih (by omega)
    simp only [sls]
    by_cases hm : s k = 0
    · rw [dif_pos ⟨by omega, hm⟩, bestOf_snoc]
      cases hb : bestOf lowS (sls s N k) with
      | none => rw [hb] at ih; exact ⟨Nat.lt_succ_self _, ih⟩
      | some b =>
        rw [hb] at ih
        have : ¬ ((k : Int) < (b.1 : Int)) := by have := ih.1; omega
        simp only [bstep, lowS, this, decide_false, Bool.false_eq_true, if_false]
        exact ⟨by have := ih.1; omega, ih.2⟩
    · rw [dif_neg (fun x => hm x.2)]
      cases hb : bestOf lowS (sls s N k) with
      | none =>
        rw [hb] at ih
        intro j hj
        by_cases e : j = k
        · rw [e]; exact hm
        · exact ih j (by omega)
      | some b => rw [hb] at ih; exact ⟨by have := ih.1; omega, ih.2⟩

theorem sls_first (s : Nat → Int) (N n : Nat) (hn : n < N) (h0 : s n = 0) (hz : ∀ j, j < n → s j ≠ 0) : bval (fun x : Sl s N => (x.1 : Int)) (bestOf lowS (sls s N N)) = n ∧ (bestOf lowS (sls s N N)).isSome = true := by
  have hl := sls_low s N N (Nat.le_refl _)
  cases hb : bestOf lowS (sls s N N) with
  | none => rw [hb] at hl; exact absurd h0 (hl n hn)
  | some x =>
    rw [hb] at hl
    have : x.1 = n := by
      rcases Nat.lt_trichotomy x.1 n with h | h | h
      · exact absurd x.2.2 (hz _ h)
      · exact h
      · exact absurd h0 (hl.2 n h)
    simp [bval, this]

theorem freeSlotsMk_any (k h c : Int) (s : Nat → Int) (w : World) :
    Calls Tryd.prog 100 #[.agg #[.int .i64 k, .int .i64 h, .int .i64 c, .int .i64 (s 0), .int .i64 (s 1), .int .i64 (s 2), .int .i64 (s 3), .int .i64 (s 4), .int .i64 (s 5), .int .i64 (s 6), .int .i64 (s 7)]] w fun e w' =>
      e = .returned (.func (.func 108) #[] #[.pointer (some ⟨w.heap.size, 0, none⟩)]) ∧ FrameIn w' w.heap.size k h c s ∧ Ext none1 w w' := by
  go_enter Tryd.func100, Tryd.ntmps100
  go_wp2
  go_ret
  exact ⟨rfl, heap_alloc_new _ _, (Ext.refl _ _).alloc _⟩

theorem freeSlots_J (F : Fence) (n : Nat) (hF : Wide F) (hn : 2 ≤ n) (X : Nat → Prop) (b : Nat) (kd h c : Int) (s : Nat → Int) (N : Nat) (hN : Ti.slots c = (N : Int)) (c0 : 0 ≤ c) (c2 : c ≤ 2) (w : World) (k1 : ¬ X b) (hb : FrameIn w b kd h c s) :
    SeqJ F n Tryd.prog 108 #[.pointer (some ⟨b, 0, none⟩)] (fun x : Sl s N => #[Value.int .i64 (x.1 : Int)]) (fun pre _ => pre.length < N) (fun l => Stay (but X l)) (fun _ _ => True) (fun ys => ys = sls s N N) (fun pre => ∃ k, k ≤ N ∧ pre = sls s N k) w := by
  refine SeqJ.of_stops (K := fun k => k = b) ?_ ?_
  · rintro k rfl; exact ⟨lt_of_heap hb, k1⟩
  · intro l J Jx W hW _ _ hY h0
    have hS' : Stay (fun _ => True) w W := fun k o _ ho => (hW.block k (lt_of_heap ho)).trans ho
    exact freeSlots1_in F n hF hn l _ b kd h c s N hN c0 c2 J Jx W hY rfl (hS' _ _ trivial hb) h0

theorem lowestSlot_any (w : World) (b : Nat) (kd h c : Int) (s : Nat → Int) (N n : Nat) (hN : Ti.slots c = (N : Int)) (c0 : 0 ≤ c) (c2 : c ≤ 2) (hb : FrameIn w b kd h c s) (hn : n < N) (hz0 : s n = 0) (hz : ∀ j, j < n → s j ≠ 0) :
    Calls Tryd.prog 94 #[.func (.func 108) #[] #[.pointer (some ⟨b, 0, none⟩)], .func (.func 96) #[] #[]] w fun e w' =>
      e = .returned (.tuple #[.int .i64 (n : Int), .bool true]) ∧ Ext none1 w w' := by
  have v1 := lt_of_heap hb
  have hbest := (callsIn_wide (n := 9)).1 (best_in Fence.wide 9 Wide.wide (by omega) w 108 96 #[.pointer (some ⟨b, 0, none⟩)] #[]
    (fun x : Sl s N => (x.1 : Int)) (sls s N N) (fun pre => ∃ k, k ≤ N ∧ pre = sls s N k) (fun pre _ => pre.length < N) lowS (enters_of Tryd.func108 (by kernel_rfl) rfl) (enters_of Tryd.func96 (by kernel_rfl) rfl)
    (fun w2 hB hs => by
      have hS : Stay (fun _ => True) w w2 := fun k o _ ho => (hB.block k (lt_of_heap ho)).trans ho
      exact freeSlots_J Fence.wide 8 Wide.wide (by omega) (two (w.heap.size + 1) (w.heap.size + 2)) b kd h c s N hN c0 c2 w2 (by rintro (e | e) <;> omega) (hS _ _ trivial hb))
    (fun x y W k hB => Wide.wide.calls ((lower_any _ _ W).mono (fun e W' h => ⟨h.1, by rw [← h.2]; exact Ext.refl _ _⟩))))
  rw [(sls_first s N n hn hz0 hz).1, (sls_first s N n hn hz0 hz).2] at hbest
  exact hbest

theorem heapOf_any (w : World) (m bf bz : Nat) (S : Ti.St) (worker : Int) (hP : PrAt w m bf bz S) (hI : Ti.Inv0 S) (h0 : 0 ≤ worker) (h1 : worker ≤ 1000) :
    Calls Tryd.prog 99 #[.pointer (some ⟨m, 0, none⟩), .int .i64 worker] w fun e w' => e = .returned (.int .i64 (1 + worker % S.heaps)) ∧ w = w' := by
  have hh1 := hI.h1
  have hh4 := hI.h4
  have hm0 : 0 ≤ worker % S.heaps := Int.emod_nonneg _ (by omega)
  have hm1 : worker % S.heaps < S.heaps := Int.emod_lt_of_pos _ (by omega)
  have c0 : w.cell? ⟨m, 0, none⟩ = some (.int .i64 S.heaps) := by rw [cell_of hP.hd]; rfl
  go_enter Tryd.func99, Tryd.ntmps99
  go_wp2
  go_ret
  exact ⟨rfl, rfl⟩

theorem PrAt.zc {w : World} {m bf bz : Nat} {S : Ti.St} (h : PrAt w m bf bz S) (k : Nat) (hk : k < S.bytes.length) : w.cell? ⟨bz, k, none⟩ = some (.int .u8 (S.byte k)) ∧ w.frozen? ⟨bz, k, none⟩ = false := by
  obtain ⟨c, h1, _, h3⟩ := h.bytes
  exact ⟨by rw [cell_of h1]; exact h3 k hk, frozen_of h1 k⟩
theorem PrAt.c3 {w : World} {m bf bz : Nat} {S : Ti.St} (h : PrAt w m bf bz S) : w.cell? ⟨m, 3, none⟩ = some (.slice (some ⟨bz, 0, none⟩) S.bytes.length S.bytes.length) := by rw [cell_of h.hd]; rfl

set_option maxRecDepth 100000 in
set_option maxHeartbeats 4000000 in
theorem takeSlot_no (w : World) (m bf bz : Nat) (S : Ti.St) (worker size : Int) (hP : PrAt w m bf bz S) (hI : Ti.Inv0 S) (w0 : 0 ≤ worker) (w1 : worker ≤ 1000) (s2 : size ≤ 32) (hpl : S.place (1 + worker % S.heaps) (Ti.clsOf size) = -1) :
    Calls Tryd.prog 76 #[.pointer (some ⟨m, 0, none⟩), .int .i64 worker, .int .i64 size] w fun e w' => e = .returned (.tuple #[.int .i64 0, .bool false]) ∧ Ext none1 w w' := by
  have H1 : Hid _ := superblockFor_no w m bf bz S _ _ hP hI hpl
  have H2 : Hid _ := heapOf_any w m bf bz S worker hP hI w0 w1
  clear hpl
  go_enter Tryd.func76, Tryd.ntmps76
  go_wp2_with fail
  refine (classOf_any _ _ s2).mono ?_
  rintro e w' ⟨rfl, rfl⟩
  go_wp2_with fail
  refine Calls.mono H2.out ?_
  rintro e w' ⟨rfl, rfl⟩
  go_wp2_with fail
  refine Calls.mono H1.out ?_
  rintro e w' ⟨rfl, hE⟩
  go_wp2
  go_ret2
  exact ⟨rfl, hE⟩
end Go.Proofs.YtbagfepdmmfegaaDoor

namespace Go.Proofs.YtbagfepdmmfegaaDoor
open Go.RowKit Go.Shelf

theorem slot_set (S : Ti.St) (f : Nat) (hf : f < S.sups.length) (c h : Int) (j : Nat) (hj : (j : Int) < Ti.slots c) : slotOf (S.setSup f ⟨true, c, h⟩) f j = sizeAt S.blocks (64 * f + j * Ti.width c) := by
  unfold slotOf
  rw [Ti.sup_setSup S f f _ hf, if_pos rfl, if_pos ⟨rfl, hj⟩]
  rfl

theorem clear_at {w : World} {m bf bz : Nat} {S : Ti.St} (h : PrAt w m bf bz S) (a n c : Nat) (ty : TypeId) (hn : 0 < n) (hb : a + n ≤ S.bytes.length) :
    (Builtin.clear_ #[93] ty #[.slice (some ⟨bz, a, none⟩) n c]).run Tryd.prog w = .ok (.tuple #[]) (w.setCells bz a (List.replicate n (.int .u8 0))) := by
  obtain ⟨cc, q1, q2, q3⟩ := h.bytes
  refine run_clear _ bz a n c ty hn (fun j hj => ?_) (fun j _ => frozen_of q1 _)
  rw [cell_of q1, q3 _ (by omega)]
  rfl

set_option maxRecDepth 100000 in
set_option maxHeartbeats 8000000 in
theorem takeSlot_yes (w : World) (m bf bz : Nat) (S : Ti.St) (worker size : Int) (hP : PrAt w m bf bz S) (hne : m ≠ bf ∧ bf ≠ bz ∧ m ≠ bz) (hI : Ti.Inv0 S) (w0 : 0 ≤ worker) (w1 : worker ≤ 1000) (s1 : 1 ≤ size) (s2 : size ≤ 32) (f n : Nat) (hf : f < S.sups.length)
    (hpl : S.place (1 + worker % S.heaps) (Ti.clsOf size) = (f : Int)) (hn : (n : Int) < Ti.slots (Ti.clsOf size)) (hat : Ti.atI S.blocks (64 * f + n * Ti.width (Ti.clsOf size)) < 0) (hlow : ∀ j : Nat, j < n → 0 ≤ Ti.atI S.blocks (64 * f + j * Ti.width (Ti.clsOf size))) :
    Calls Tryd.prog 76 #[.pointer (some ⟨m, 0, none⟩), .int .i64 worker, .int .i64 size] w fun e w' =>
      e = .returned (.tuple #[.int .i64 (64 * f + n * Ti.width (Ti.clsOf size)), .bool true]) ∧ PrAt w' m bf bz { S.setSup f ⟨true, Ti.clsOf size, 1 + worker % S.heaps⟩ with blocks := Ti.ins (64 * f + n * Ti.width (Ti.clsOf size), size) S.blocks } ∧ Ext (one bf) w w' := by
  have H1 : Hid _ := superblockFor_yes w m bf bz S _ _ f hP ⟨hne.1, hne.2.1⟩ hI hf hpl
  have H2 : Hid _ := heapOf_any w m bf bz S worker hP hI w0 w1
  have hcr := Ti.cls_range size
  have hcw := Ti.cls_width size s2
  have h16 := hI.f16
  have hbz := hI.bz
  have hsz := fun a => sizeAt_pos S hI a
  have hno : ∀ x ∈ S.blocks, x.1 ≠ 64 * (f : Int) + n * Ti.width (Ti.clsOf size) := fun x hx e => by
    have := (Ti.atI_nn S.blocks _).2 ⟨x, hx, e⟩; omega
  have Hsl : Hid (∀ j : Nat, (j : Int) < Ti.slots (Ti.clsOf size) → slotOf (S.setSup f ⟨true, Ti.clsOf size, 1 + worker % S.heaps⟩) f j = sizeAt S.blocks (64 * f + j * Ti.width (Ti.clsOf size))) := fun j hj => slot_set S f hf _ _ j hj
  have hS1 : (S.setSup f ⟨true, Ti.clsOf size, 1 + worker % S.heaps⟩).sup f = ⟨true, Ti.clsOf size, 1 + worker % S.heaps⟩ := by rw [Ti.sup_setSup S f f _ hf, if_pos rfl]
  have hpc : Hid (pc (S.setSup f ⟨true, Ti.clsOf size, 1 + worker % S.heaps⟩) f = Ti.clsOf size) := by show _ = _; unfold pc; rw [hS1]; rfl
  have hlen : (S.setSup f ⟨true, Ti.clsOf size, 1 + worker % S.heaps⟩).sups.length = S.sups.length := Ti.len_setSup S f _
  have hblk : (S.setSup f ⟨true, Ti.clsOf size, 1 + worker % S.heaps⟩).blocks = S.blocks := rfl
  have hbyt : (S.setSup f ⟨true, Ti.clsOf size, 1 + worker % S.heaps⟩).bytes = S.bytes := rfl
  clear hpl
  generalize hcd : Ti.clsOf size = c at *
  have Hcd : Hid (Ti.clsOf size = c) := hcd
  clear hcd
  generalize 1 + worker % S.heaps = h at *
  generalize hSd : S.setSup f ⟨true, c, h⟩ = S1 at *
  clear hSd
  obtain ⟨zn, rfl⟩ := Int.eq_ofNat_of_zero_le (show 0 ≤ size by omega)
  have hwd := Ti.width_slots c
  obtain ⟨N, hN⟩ : ∃ N : Nat, Ti.slots c = (N : Int) := ⟨(Ti.slots c).toNat, by omega⟩
  have hnN : n < N := by omega
  have hz0 : slotOf S1 f n = 0 := by
    rw [Hsl.out n hn]; exact sizeAt_none _ _ hno
  have hz : ∀ j, j < n → slotOf S1 f j ≠ 0 := by
    intro j hj
    rw [Hsl.out j (by omega)]
    have := (hsz (64 * f + j * Ti.width c)).2 (hlow j hj)
    omega
  clear hsz hlow hat Hsl
  go_enter Tryd.func76, Tryd.ntmps76
  go_wp2_with fail
  refine (classOf_any _ _ s2).mono ?_
  rintro e w' ⟨rfl, rfl⟩
  rw [Hcd.out]
  go_wp2_with fail
  refine Calls.mono H2.out ?_
  rintro e w' ⟨rfl, rfl⟩
  go_wp2_with fail
  refine Calls.mono H1.out ?_
  rintro e wA ⟨rfl, hPA, hEA⟩
  have hf1 : f < S1.sups.length := by rw [hlen]; exact hf
  have y2 := hPA.c2
  rw [hlen] at y2
  obtain ⟨q0, q1, q2, q3, q4, q5, q6, q7, q8, q9, q10⟩ := hPA.fc f hf1
  have hf' : (f : Int) < S.sups.length := by omega
  clear H1 H2
  go_wp2_with fail
  refine (freeSlotsMk_any _ _ _ (slotOf S1 f) _).mono ?_
  rintro e wB ⟨rfl, hfr, hEB⟩
  rw [hpc.out] at hfr
  have H3 : Hid _ := lowestSlot_any wB wA.heap.size _ _ c (slotOf S1 f) N n hN hcr.1 hcr.2 hfr hnN hz0 hz
  clear hfr q0 q1 q2 q3 q4 q5 q6 q7 q8 q9 q10 y2 hz hz0
  go_wp2_with fail
  refine Calls.mono H3.out ?_
  rintro e wC ⟨rfl, hEC⟩
  have hEAC : Ext none1 wA wC := hEB.trans hEC
  have hPC := hPA.keep0 hEAC
  have y2 := hPC.c2
  have y3 := hPC.c3
  rw [hlen] at y2
  rw [hbyt] at y3
  have hn8 : n < 8 := by omega
  have q3 : wC.cell? ⟨bf, f * 11 + 3 + n, none⟩ = some (.int .i64 (slotOf S1 f n)) := by
    obtain ⟨cc, p1, p2, p3⟩ := hPC.fr
    rw [cell_of p1]; exact (p3 f hf1).2.2.2 n hn8
  have qf := hPC.ff (f * 11 + 3 + n)
  have hEf : Ext (one bf) w wC := hEA.trans' hEAC (fun _ _ x => x.elim)
  clear H3
  have hb : n * 8 < 64 := by omega
  have hpb := PrAt.putSlot hPC ⟨hne.1, hne.2.1⟩ (by rw [hblk]; exact hI.sorted) f n _ zn c s2 hf1 (by rw [hS1]; exact ⟨rfl, rfl⟩) hn rfl (by rw [hblk]; exact hno)
  rw [hblk] at hpb
  have hxt := hEf.setCell ⟨bf, f * 11 + 3 + n, none⟩ (.inl rfl) (.int .i64 (zn : Int))
  clear y3
  go_wp2_with fail
  refine (slotSize_any c _ hcr.1 hcr.2).mono ?_
  rintro e w' ⟨rfl, rfl⟩
  obtain ⟨wd, hwn⟩ : ∃ wd : Nat, Ti.width c = (wd : Int) := ⟨(Ti.width c).toNat, by omega⟩
  have hwc : wd = 8 ∨ wd = 16 ∨ wd = 32 := by omega
  rw [hwn] at hpb
  rw [hwn]
  rcases hwc with rfl | rfl | rfl
  · go_wp2
    go_ret2
    rw [hwn]
    exact ⟨by simp [Int.mul_comm], hpb, hxt⟩
  · have hb : n * 16 < 64 := by omega
    go_wp2
    go_ret2
    rw [hwn]
    exact ⟨by simp [Int.mul_comm], hpb, hxt⟩
  · have hb : n * 32 < 64 := by omega
    go_wp2
    go_ret2
    rw [hwn]
    exact ⟨by simp [Int.mul_comm], hpb, hxt⟩
end Go.Proofs.YtbagfepdmmfegaaDoor

/- A REGION THAT DRAWS ITS ORDER WITHIN A ROUND of a range over a function, and calls: by the laws of regions without a round, where the fence is wide. -/
namespace Go.Proofs.YtbagfepdmmfegaaDoor
open Go.RowKit Go.Shelf

theorem rowsIn_wide {n : Nat} {P : Program} {row : String} {args : Array Value} {w : World} {R : Value → World → Prop} (h : Rows P row args w R) : RowsIn Fence.wide n P row args w R :=
  fun c cs _ => let ⟨v, w', r, s⟩ := h c cs; ⟨v, w', r, stepsIn_wide.2 s⟩

/-- no operation defers -/
def noDefer (ops : Array Oper) : Bool := ops.all fun o => match o.op with | .defer _ => false | _ => true

theorem noDefer_spec {ops : Array Oper} (h : noDefer ops = true) (i : Nat) (o : Oper) (hi : ops[i]? = some o) : ∀ c, o.op ≠ .defer c := by
  intro c hc
  have := Array.all_eq_true'.1 h o (Array.mem_of_getElem? hi)
  simp [hc] at this

theorem wpOpsIn_round {P : Program} {ops : Array Oper} {Q : Exit → Act → World → Prop} {l n : Nat} (hd : noDefer ops = true) (hq : ¬ LetsOut Q) :
    ∀ (is : List Nat) (a : Act) (w : World), wpOps P ops Q is a w → wpOpsIn (Fence.wide.inRound l) n P ops Q is a w := by
  intro is
  induction is with
  | nil => intro a w h; exact h
  | cons i rest ih =>
    intro a w h
    unfold wpOps at h
    unfold wpOpsIn
    cases hi : ops[i]? with
    | none => simp only [hi] at h ⊢; exact ih a w h
    | some o =>
      simp only [hi] at h ⊢
      by_cases hw : Region.wanted o (yielded ops a.tmps) = true
      · rw [if_pos hw] at h ⊢
        rcases h with h | h
        · refine ⟨fun _ _ => trivial, ?_⟩
          rw [Oper.semAt_eq _ _ _ (noDefer_spec hd i o hi)]
          unfold Oper.wp at h
          generalize (execOp a.eval o).run P w = r at *
          cases r with
          | ok x w' =>
            cases x <;> simp only [Oper.upon, Oper.uponIn] at h ⊢
            case value u => exact ih _ _ h
            case skip => exact ih _ _ h
            case defer d => exact ih _ _ h
            case enter f args =>
              refine ⟨fun hh => (by cases hh), CallsIn.inRound l (callsIn_wide.2 (h.mono fun e w'' he => ?_))⟩
              cases e with
              | returned u => exact ih _ _ he
              | panicked c => exact he
              | outgrown => exact he
            case row row args => exact ⟨fun hh => (by cases hh), rowsIn_wide (h.mono fun u w'' he => ih _ _ he)⟩
          | halt x w' => cases x <;> simp only [Oper.upon, Oper.uponIn] at h ⊢ <;> exact h
        · exact absurd h.2 hq
      · rw [if_neg hw] at h ⊢
        exact ⟨fun _ _ => trivial, ih _ _ h⟩

theorem wpIn_region_round {P : Program} {id : Nat} {ops : Array Oper} {Q : Exit → Act → World → Prop} {a : Act} {w : World} {l n : Nat} {S : World → Prop} (hm : P.follows .mixedOrders = true) (hd : noDefer ops = true) (hq : ¬ LetsOut Q)
    (hS : S w.drew) (h : S w.drew → wpAnyH P .any ops Q S ops.size (Array.replicate ops.size false) a w.drew) : (Code.region id ops true).wpIn (Fence.wide.inRound l) n P Q a w :=
  wpIn_region_draw fun t => wpOpsIn_round hd hq _ _ _ (by
    simp only [Region.schedule, hm, Bool.true_or, if_true]
    exact wpAny_sound ops.size t _ a _ (wpAny_of_held _ _ _ _ (h hS)))

/-- the kit's law, the place named -/
theorem take_dst {P : Program} {md : Region.Mode} {ops : Array Oper} {Q : Exit → Act → World → Prop} {S : World → Prop} (i d : Nat) {oi : Oper} {v : Value} {fuel : Nat} {listed : Array Bool} {a : Act} {w : World} (hi : ops[i]? = some oi)
    (hs : Region.noSelect ops = true) (hf : Region.free md ops listed i = true) (hr : (Region.ready md ops listed).contains i = true) (hd : oi.dst = some d)
    (hQ : ∀ c a w, Q (.panic c) (a.put oi.dst v) w → Q (.panic c) a w) (hy : YieldsIf P ops S oi v a) (hS : S w)
    (h : wpAnyH P md ops Q S fuel (listed.setIfInBounds i true) (a.put (some d) v) w) : wpAnyH P md ops Q S (fuel + 1) listed a w :=
  wpAnyH_take hi hs hf hr hQ hy hS (by rw [hd]; exact h)
end Go.Proofs.YtbagfepdmmfegaaDoor

namespace Go.Proofs.YtbagfepdmmfegaaDoor
open Go.RowKit Go.Shelf
attribute [local go_sem] Oper.semAt_some

def chg (S : Ti.St) (h c : Int) (l : List (Mi S h c)) : Int := (l.map fun i => (posTo (slotOf S i.1) 8 : Int) * Ti.width c).sum
theorem chg_snoc (S : Ti.St) (h c : Int) (l : List (Mi S h c)) (x : Mi S h c) : chg S h c (l ++ [x]) = chg S h c l + (posTo (slotOf S x.1) 8 : Int) * Ti.width c := by
  simp [chg, List.sum_append]
theorem pos_bd (s : Nat → Int) (c : Int) : 0 ≤ (posTo s 8 : Int) * Ti.width c ∧ (posTo s 8 : Int) * Ti.width c ≤ 256 := by
  have h1 := posTo_le s 8
  have h2 := width_bd c
  exact ⟨Int.mul_nonneg (by omega) (by omega), by have := Int.mul_le_mul (show (posTo s 8 : Int) ≤ 8 by omega) h2.2 (by omega) (by omega); omega⟩
theorem chg_bd (S : Ti.St) (h c : Int) (l : List (Mi S h c)) : 0 ≤ chg S h c l ∧ chg S h c l ≤ 256 * l.length := by
  induction l with
  | nil => simp [chg]
  | cons x r ih =>
    have := pos_bd (slotOf S x.1) c
    simp only [chg, List.map_cons, List.sum_cons, List.length_cons] at ih ⊢
    omega
theorem chg_all (S : Ti.St) (hI : Ti.Inv0 S) (h c : Int) : chg S h c (mines S h c S.sups.length) = S.charged h c := by
  rw [Ti.St.charged, charged_mine, ← mines_map S h c _ (Nat.le_refl _), List.map_map, chg]
  congr 1
  apply List.map_congr_left
  intro x _
  have hm := x.2.2
  simp [Ti.St.mine] at hm
  simp only [Function.comp]
  rw [usedSlots_used S hI x.1 hm.1.1, Int.mul_comm]


/-- five blocks more -/
theorem heap_at (w : World) (a : Obj) (k : Nat) (h : k < w.heap.size) {o : Obj} (e : w.heap[k]? = some o) : (w.alloc a).heap[k]? = some o := (Below.heap_alloc _ _ _ h).trans e

set_option maxRecDepth 100000 in
set_option maxHeartbeats 4000000 in
theorem stats_in (n : Nat) (hn : 4 ≤ n) (w : World) (m bf bz : Nat) (S : Ti.St) (h c : Int) (hP : PrAt w m bf bz S) (hI : Ti.Inv0 S) (c0 : 0 ≤ c) (c2 : c ≤ 2) :
    CallsIn Fence.wide n Tryd.prog 33 #[.pointer (some ⟨m, 0, none⟩), .int .i64 h, .int .i64 c] w fun e w' => e = .returned (.agg #[.int .i64 (S.held h c), .int .i64 (S.charged h c)]) ∧ Ext none1 w w' := by
  have h1 : 1 ≤ n := by omega
  have hall := Wide.wide.all
  have hro := Wide.wide.round
  have h16 := hI.f16
  refine callsIn_of_wp_marks Tryd.func33 rfl (hall _) ?_ hro
  simp only [Tryd.ntmps33, List.size_toArray, List.length_cons, List.length_nil, Nat.reduceAdd, Nat.reduceSub, Array.replicate_succ, Array.replicate_zero, List.push_toArray, List.append_toArray, List.nil_append, List.cons_append]
  gi_wp2_with (gi_at_call 49; refine (superblocks_in Fence.wide _ (hall _) hro _ _ _ _).mono ?_; rintro e w' ⟨rfl, rfl⟩)
  have hml := lt_of_heap hP.hd
  obtain ⟨_, hfl, _⟩ := hP.fr
  have hfl := lt_of_heap hfl
  obtain ⟨_, hzl, _⟩ := hP.bytes
  have hzl := lt_of_heap hzl
  have hb0 := heap3 w (.cells #[.pointer (some ⟨m, 0, none⟩)] 69) (.cells #[.int .i64 c] 3) (.cells #[.int .i64 0, .int .i64 0] 44)
  have hbA : ((((w.alloc (.cells #[.pointer (some ⟨m, 0, none⟩)] 69)).alloc (.cells #[.int .i64 c] 3)).alloc (.cells #[.int .i64 0, .int .i64 0] 44)).alloc (.cells #[.int .i64 0, .int .i64 0] 44)).heap[w.heap.size]? = some (.cells #[.pointer (some ⟨m, 0, none⟩)] 69) ∧ ((((w.alloc (.cells #[.pointer (some ⟨m, 0, none⟩)] 69)).alloc (.cells #[.int .i64 c] 3)).alloc (.cells #[.int .i64 0, .int .i64 0] 44)).alloc (.cells #[.int .i64 0, .int .i64 0] 44)).heap[w.heap.size + 1]? = some (.cells #[.int .i64 c] 3) ∧ ((((w.alloc (.cells #[.pointer (some ⟨m, 0, none⟩)] 69)).alloc (.cells #[.int .i64 c] 3)).alloc (.cells #[.int .i64 0, .int .i64 0] 44)).alloc (.cells #[.int .i64 0, .int .i64 0] 44)).heap[w.heap.size + 2]? = some (.cells #[.int .i64 0, .int .i64 0] 44) ∧ ((((w.alloc (.cells #[.pointer (some ⟨m, 0, none⟩)] 69)).alloc (.cells #[.int .i64 c] 3)).alloc (.cells #[.int .i64 0, .int .i64 0] 44)).alloc (.cells #[.int .i64 0, .int .i64 0] 44)).heap[w.heap.size + 3]? = some (.cells #[.int .i64 0, .int .i64 0] 44) :=
    ⟨heap_at _ _ _ (by simp <;> omega) hb0.1, heap_at _ _ _ (by simp <;> omega) hb0.2.1, heap_at _ _ _ (by simp <;> omega) hb0.2.2, by have := heap_alloc_new (((w.alloc (.cells #[.pointer (some ⟨m, 0, none⟩)] 69)).alloc (.cells #[.int .i64 c] 3)).alloc (.cells #[.int .i64 0, .int .i64 0] 44)) (.cells #[.int .i64 0, .int .i64 0] 44); simpa using this⟩
  clear hb0
  have hEA : Ext none1 w ((((w.alloc (.cells #[.pointer (some ⟨m, 0, none⟩)] 69)).alloc (.cells #[.int .i64 c] 3)).alloc (.cells #[.int .i64 0, .int .i64 0] 44)).alloc (.cells #[.int .i64 0, .int .i64 0] 44)) := ((((Ext.refl _ _).alloc _).alloc _).alloc _).alloc _
  have hsA : ((((w.alloc (.cells #[.pointer (some ⟨m, 0, none⟩)] 69)).alloc (.cells #[.int .i64 c] 3)).alloc (.cells #[.int .i64 0, .int .i64 0] 44)).alloc (.cells #[.int .i64 0, .int .i64 0] 44)).heap.size = w.heap.size + 4 := by simp
  generalize ((((w.alloc (.cells #[.pointer (some ⟨m, 0, none⟩)] 69)).alloc (.cells #[.int .i64 c] 3)).alloc (.cells #[.int .i64 0, .int .i64 0] 44)).alloc (.cells #[.int .i64 0, .int .i64 0] 44)) = wA at *
  have hb3 := heap3 wA (.cells #[.pointer (some ⟨m, 0, none⟩)] 69) (.cells #[.int .i64 h] 3) (.cells #[.int .i64 c] 3)
  have hEB : Ext none1 wA (((wA.alloc (.cells #[.pointer (some ⟨m, 0, none⟩)] 69)).alloc (.cells #[.int .i64 h] 3)).alloc (.cells #[.int .i64 c] 3)) := (((Ext.refl _ _).alloc _).alloc _).alloc _
  have hsB : (((wA.alloc (.cells #[.pointer (some ⟨m, 0, none⟩)] 69)).alloc (.cells #[.int .i64 h] 3)).alloc (.cells #[.int .i64 c] 3)).heap.size = wA.heap.size + 3 := by simp
  generalize (((wA.alloc (.cells #[.pointer (some ⟨m, 0, none⟩)] 69)).alloc (.cells #[.int .i64 h] 3)).alloc (.cells #[.int .i64 c] 3)) = w1 at *
  rw [hsA] at hb3 hsB
  have hE1 : Ext none1 w w1 := hEA.trans hEB
  have g0 := hEB.keep hbA.1 (fun x => x)
  have g1 := hEB.keep hbA.2.1 (fun x => x)
  have g2 := hEB.keep hbA.2.2.1 (fun x => x)
  have g3 := hEB.keep hbA.2.2.2 (fun x => x)
  clear hbA hEA hEB
  refine range_J hro h1 (gf := 74) (lb := #[.pointer (some ⟨w.heap.size + 1 + 1 + 1 + 1, 0, none⟩), .pointer (some ⟨w.heap.size + 1 + 1 + 1 + 1 + 1, 0, none⟩), .pointer (some ⟨w.heap.size + 1 + 1 + 1 + 1 + 2, 0, none⟩)]) rfl (hall _) (enters_of Tryd.func74 (by kernel_rfl) rfl)
    (superblocks_J Fence.wide (n - 1) (hall _) hro (by omega) (one (w.heap.size + 3)) m bf bz (w.heap.size + 4) (w.heap.size + 4 + 1) (w.heap.size + 4 + 2) S h c h16 w1 (by unfold one; omega) (by unfold one; omega) (by unfold one; omega) (by unfold one; omega) (by unfold one; omega) (by unfold one; omega) hb3.1 hb3.2.1 hb3.2.2 (hP.keep0 hE1))
    (fun a b => a.trans b) (fun W l o _ => stay_put _ W l o) (fun _ => rfl)
    (fun pre W => W.heap[w.heap.size]? = some (.cells #[.pointer (some ⟨m, 0, none⟩)] 69 (0, 0)) ∧ W.heap[w.heap.size + 1]? = some (.cells #[.int .i64 c] 3 (0, 0)) ∧ W.heap[w.heap.size + 2]? = some (.cells #[.int .i64 0, .int .i64 0] 44 (0, 0)) ∧ W.heap[w.heap.size + 3]? = some (.cells #[.int .i64 (64 * (pre.length : Int)), .int .i64 (chg S h c pre)] 44 (0, 0)) ∧ Below w.heap.size w W)
    (fun _ _ _ => False)
    (OwnFrom.and (ownFrom_block (by omega) _) (OwnFrom.and (ownFrom_block (by omega) _) (OwnFrom.and (ownFrom_block (by omega) _) (OwnFrom.and (ownFrom_block (by omega) _) (ownFrom_below (Nat.le_refl _) (by omega))))))
    (fun _ _ _ _ _ hs _ _ => hs) (fun _ _ _ => trivial)
    ⟨g0, g1, g2, g3, hE1.below⟩
    (fun x => { tmps := #[.pointer (some ⟨m, 0, none⟩), .int .i64 h, .int .i64 c, .pointer (some ⟨w.heap.size, 0, none⟩), undef, .pointer (some ⟨w.heap.size + 1, 0, none⟩), .pointer (some ⟨w.heap.size + 1 + 1, 0, none⟩), .pointer (some ⟨w.heap.size + 1 + 1 + 1, 0, none⟩), .int .i64 (x.1 : Int), .pointer (some ⟨m, 0, none⟩), .int .i64 h, .int .i64 c, .func (.func 74) #[] #[.pointer (some ⟨w.heap.size + 1 + 1 + 1 + 1, 0, none⟩), .pointer (some ⟨w.heap.size + 1 + 1 + 1 + 1 + 1, 0, none⟩), .pointer (some ⟨w.heap.size + 1 + 1 + 1 + 1 + 2, 0, none⟩)], .int .i64 (x.1 : Int), undef, undef, undef, undef, undef, undef, undef, undef, undef, undef, undef, undef, undef, undef, undef, undef, undef, undef, undef, undef], defers := [] }) ?assign ?body ?done ?stop
  case assign =>
    intro l x W K hK
    gi_wp2
    simpa using hK
  case body =>
    rintro l pre x W0 hll ⟨e0, e1, e2, e3, hB0⟩ hlt
    have d1 := cell_of e3 0
    have d2 := frozen_of e3 0
    simp at d1
    have hplen : (pre.length : Int) < 16 := by omega
    have t3 := heap_set e3 0 (.int .i64 (64 * (pre.length : Int) + 64))
    have t0 : (W0.setCell ⟨w.heap.size + 3, 0, none⟩ (.int .i64 (64 * (pre.length : Int) + 64))).heap[w.heap.size]? = _ := (heap_set_ne (by omega) _ _).trans e0
    have t1 : (W0.setCell ⟨w.heap.size + 3, 0, none⟩ (.int .i64 (64 * (pre.length : Int) + 64))).heap[w.heap.size + 1]? = _ := (heap_set_ne (by omega) _ _).trans e1
    have t2 : (W0.setCell ⟨w.heap.size + 3, 0, none⟩ (.int .i64 (64 * (pre.length : Int) + 64))).heap[w.heap.size + 2]? = _ := (heap_set_ne (by omega) _ _).trans e2
    have tB : Below w.heap.size w (W0.setCell ⟨w.heap.size + 3, 0, none⟩ (.int .i64 (64 * (pre.length : Int) + 64))) := hB0.setCell (p := ⟨w.heap.size + 3, 0, none⟩) (by show _ ≤ w.heap.size + 3; omega) _
    have tK : KeepsFrom w1.heap.size W0 (W0.setCell ⟨w.heap.size + 3, 0, none⟩ (.int .i64 (64 * (pre.length : Int) + 64))) := (KeepsOthers.setCell _ _ _).from _
    have tS : Stay (but (one (w.heap.size + 3)) l) W0 (W0.setCell ⟨w.heap.size + 3, 0, none⟩ (.int .i64 (64 * (pre.length : Int) + 64))) := (Stay.refl _ _).setCell _ (fun hh => hh.1 rfl) _
    have Hw : Hid (w.heap.size + 1 + 1 + 1 = w.heap.size + 3) := rfl
    gi_wp2
    clear e0 e1 e2 e3 hB0 d1 d2
    generalize hWd : (W0.setCell ⟨w.heap.size + 3, 0, none⟩ (.int .i64 (64 * (pre.length : Int) + 64))) = W at *
    clear hWd
    have e0 := t0
    have e1 := t1
    have e2 := t2
    have e3 : W.heap[w.heap.size + 3]? = some (.cells #[.int .i64 (64 * (pre.length : Int) + 64), .int .i64 (chg S h c pre)] 44 (0, 0)) := t3
    have hB := tB
    clear t0 t1 t2 t3 tB
    have hPW := hP.keep0 (Ext.of_below hB)
    have y1 := hPW.c2
    obtain ⟨q0, q1, q2, q3, q4, q5, q6, q7, q8, q9, q10⟩ := hPW.fc x.1 x.2.1
    have y2 := cell_of e0 0
    have y3 := cell_of e1 0
    have y4 := cell_of e3 1
    have y5 := frozen_of e3 1
    simp at y2 y3 y4
    have hxl : (x.1 : Int) < S.sups.length := by have := x.2.1; omega
    have hxl' := x.2.1
    have hcb := chg_bd S h c pre
    have hpb := pos_bd (slotOf S x.1) c
    have hmx : Tryd.prog.follows Departure.mixedOrders = true := by kernel_rfl
    have l0 := lt_of_heap e0
    have l1 := lt_of_heap e1
    have l2 := lt_of_heap e2
    have l3 := lt_of_heap e3
    have lm := lt_of_heap hPW.hd
    obtain ⟨_, hfW, _⟩ := hPW.fr
    have lf := lt_of_heap hfW
    have hk : ∀ (w' : World) (b o : Nat), Ext (one (w.heap.size + 3)) W w' → b ≠ w.heap.size + 3 → b < W.heap.size → w'.cell? ⟨b, o, none⟩ = W.cell? ⟨b, o, none⟩ := fun w' b o hE hb hl => by
      show World.cell? _ _ = World.cell? _ _
      unfold World.cell?
      simp only [hE.block b hl (by unfold one; omega)]
    have hc1 : ∀ (w' : World) (o : Nat), Ext (one (w.heap.size + 3)) W w' → w'.cell? ⟨bf, o, none⟩ = W.cell? ⟨bf, o, none⟩ := fun w' o hE => hk w' bf o hE (by omega) lf
    have hc2 : ∀ (w' : World) (o : Nat), Ext (one (w.heap.size + 3)) W w' → w'.cell? ⟨m, o, none⟩ = W.cell? ⟨m, o, none⟩ := fun w' o hE => hk w' m o hE (by omega) lm
    have hc3 : ∀ (w' : World) (o : Nat), Ext (one (w.heap.size + 3)) W w' → w'.cell? ⟨w.heap.size, o, none⟩ = W.cell? ⟨w.heap.size, o, none⟩ := fun w' o hE => hk w' _ o hE (by omega) l0
    have hc4 : ∀ (w' : World) (o : Nat), Ext (one (w.heap.size + 3)) W w' → w'.cell? ⟨w.heap.size + 1, o, none⟩ = W.cell? ⟨w.heap.size + 1, o, none⟩ := fun w' o hE => hk w' _ o hE (by omega) l1
    clear hk
    have ha1 : ∀ w' : World, Ext none1 W w' → w'.cell? ⟨w.heap.size + 3, 1, none⟩ = some (.int .i64 (chg S h c pre)) := fun w' hN => by
      have := cell_of (hN.keep e3 (fun x => x)) 1
      simpa using this
    have ha2 : ∀ w' : World, Ext none1 W w' → w'.frozen? ⟨w.heap.size + 3, 1, none⟩ = false := fun w' hN => frozen_of (hN.keep e3 (fun x => x)) 1
    have hfin : Hid (∀ w2 : World, Ext none1 W w2 → KeepsFrom w1.heap.size W0 (w2.setCell ⟨w.heap.size + 3, 1, none⟩ (.int .i64 (chg S h c pre + (posTo (slotOf S x.1) 8 : Int) * Ti.width c))) ∧ Stay (but (one (w.heap.size + 3)) l) W0 (w2.setCell ⟨w.heap.size + 3, 1, none⟩ (.int .i64 (chg S h c pre + (posTo (slotOf S x.1) 8 : Int) * Ti.width c))) ∧
        (w2.setCell ⟨w.heap.size + 3, 1, none⟩ (.int .i64 (chg S h c pre + (posTo (slotOf S x.1) 8 : Int) * Ti.width c))).heap[w.heap.size]? = some (.cells #[.pointer (some ⟨m, 0, none⟩)] 69 (0, 0)) ∧
        (w2.setCell ⟨w.heap.size + 3, 1, none⟩ (.int .i64 (chg S h c pre + (posTo (slotOf S x.1) 8 : Int) * Ti.width c))).heap[w.heap.size + 1]? = some (.cells #[.int .i64 c] 3 (0, 0)) ∧
        (w2.setCell ⟨w.heap.size + 3, 1, none⟩ (.int .i64 (chg S h c pre + (posTo (slotOf S x.1) 8 : Int) * Ti.width c))).heap[w.heap.size + 2]? = some (.cells #[.int .i64 0, .int .i64 0] 44 (0, 0)) ∧
        (w2.setCell ⟨w.heap.size + 3, 1, none⟩ (.int .i64 (chg S h c pre + (posTo (slotOf S x.1) 8 : Int) * Ti.width c))).heap[w.heap.size + 3]? = some (.cells #[.int .i64 (64 * ((pre ++ [x]).length : Int)), .int .i64 (chg S h c (pre ++ [x]))] 44 (0, 0)) ∧
        Below w.heap.size w (w2.setCell ⟨w.heap.size + 3, 1, none⟩ (.int .i64 (chg S h c pre + (posTo (slotOf S x.1) 8 : Int) * Ti.width c)))) := fun w2 hN => by
      refine ⟨tK.trans (KeepsFrom.trans ⟨hN.size, fun k o _ ho _ => hN.keep ho (fun x => x)⟩ ((KeepsOthers.setCell _ _ _).from _)), (tS.trans (Stay.of_ext hN (fun _ _ x => x))).setCell ⟨w.heap.size + 3, 1, none⟩ (fun hh => hh.1 rfl) _, ?_, ?_, ?_, ?_, ?_⟩
      · rw [heap_set_ne (by omega)]; exact hN.keep e0 (fun x => x)
      · rw [heap_set_ne (by omega)]; exact hN.keep e1 (fun x => x)
      · rw [heap_set_ne (by omega)]; exact hN.keep e2 (fun x => x)
      · rw [heap_set (hN.keep e3 (fun x => x)), chg_snoc, List.length_append]
        have : 64 * ((pre.length + [x].length : Nat) : Int) = 64 * (pre.length : Int) + 64 := by simp; omega
        rw [this]; rfl
      · exact (hB.trans (hN.below.mono (by omega))).setCell (p := ⟨w.heap.size + 3, 1, none⟩) (by show _ ≤ w.heap.size + 3; omega) _
    have hwa : IntKind.i64.wrap ((posTo (slotOf S x.1) 8 : Int) * Ti.width c) = (posTo (slotOf S x.1) 8 : Int) * Ti.width c := by rw [IntKind.wrap_i64]; omega
    have hwb : IntKind.i64.wrap (chg S h c pre + (posTo (slotOf S x.1) 8 : Int) * Ti.width c) = (chg S h c pre + (posTo (slotOf S x.1) 8 : Int) * Ti.width c) := by rw [IntKind.wrap_i64]; omega
    have hN0 : Ext none1 W W.drew := (Ext.refl _ _).drew
    have hcl : (pre.length : Int) < S.sups.length := by omega
    clear tK tS
    refine wpIn_region_round (S := fun w' => Ext (one (w.heap.size + 3)) W w') (by kernel_rfl) (by kernel_rfl) (by rintro ⟨_, _, hh⟩; exact hh) (Ext.refl _ _).drew (fun hHeld => ?_)
    refine take_dst 0 18 (v := ?_) rfl (by kernel_rfl) (by kernel_rfl) (by kernel_rfl) rfl (fun _ _ _ h => h) (Or.inl ⟨by rfl, ?_⟩) (by assumption) ?_
    rotate_left
    · intro wx hSw
      first | (go_simp; done) | (go_simp; with_reducible rfl)
    simp only [Act.put, List.setIfInBounds_toArray, List.set_cons_zero, List.set_cons_succ]
    refine take_dst 2 20 (v := ?_) rfl (by kernel_rfl) (by kernel_rfl) (by kernel_rfl) rfl (fun _ _ _ h => h) (Or.inl ⟨by rfl, ?_⟩) (by assumption) ?_
    rotate_left
    · intro wx hSw
      first | (go_simp; done) | (go_simp; with_reducible rfl)
    simp only [Act.put, List.setIfInBounds_toArray, List.set_cons_zero, List.set_cons_succ]
    refine take_dst 3 21 (v := ?_) rfl (by kernel_rfl) (by kernel_rfl) (by kernel_rfl) rfl (fun _ _ _ h => h) (Or.inl ⟨by rfl, ?_⟩) (by assumption) ?_
    rotate_left
    · intro wx hSw
      first | (go_simp; done) | (go_simp; with_reducible rfl)
    simp only [Act.put, List.setIfInBounds_toArray, List.set_cons_zero, List.set_cons_succ]
    refine take_dst 4 22 (v := ?_) rfl (by kernel_rfl) (by kernel_rfl) (by kernel_rfl) rfl (fun _ _ _ h => h) (Or.inl ⟨by rfl, ?_⟩) (by assumption) ?_
    rotate_left
    · intro wx hSw
      first | (go_simp; done) | (go_simp; with_reducible rfl)
    simp only [Act.put, List.setIfInBounds_toArray, List.set_cons_zero, List.set_cons_succ]
    refine take_dst 5 23 (v := ?_) rfl (by kernel_rfl) (by kernel_rfl) (by kernel_rfl) rfl (fun _ _ _ h => h) (Or.inl ⟨by rfl, ?_⟩) (by assumption) ?_
    rotate_left
    · intro wx hSw
      first | (go_simp; done) | (go_simp; with_reducible rfl)
    simp only [Act.put, List.setIfInBounds_toArray, List.set_cons_zero, List.set_cons_succ]
    refine take_dst 6 24 (v := ?_) rfl (by kernel_rfl) (by kernel_rfl) (by kernel_rfl) rfl (fun _ _ _ h => h) (Or.inl ⟨by rfl, ?_⟩) (by assumption) ?_
    rotate_left
    · intro wx hSw
      first | (go_simp; done) | (go_simp; with_reducible rfl)
    simp only [Act.put, List.setIfInBounds_toArray, List.set_cons_zero, List.set_cons_succ]
    refine take_dst 7 25 (v := ?_) rfl (by kernel_rfl) (by kernel_rfl) (by kernel_rfl) rfl (fun _ _ _ h => h) (Or.inl ⟨by rfl, ?_⟩) (by assumption) ?_
    rotate_left
    · intro wx hSw
      first | (go_simp; done) | (go_simp; with_reducible rfl)
    simp only [Act.put, List.setIfInBounds_toArray, List.set_cons_zero, List.set_cons_succ]
    refine take_dst 8 26 (v := ?_) rfl (by kernel_rfl) (by kernel_rfl) (by kernel_rfl) rfl (fun _ _ _ h => h) (Or.inl ⟨by rfl, ?_⟩) (by assumption) ?_
    rotate_left
    · intro wx hSw
      first | (go_simp; done) | (go_simp; with_reducible rfl)
    simp only [Act.put, List.setIfInBounds_toArray, List.set_cons_zero, List.set_cons_succ]
    refine take_dst 10 28 (v := ?_) rfl (by kernel_rfl) (by kernel_rfl) (by kernel_rfl) rfl (fun _ _ _ h => h) (Or.inl ⟨by rfl, ?_⟩) (by assumption) ?_
    rotate_left
    · intro wx hSw
      first | (go_simp; done) | (go_simp; with_reducible rfl)
    simp only [Act.put, List.setIfInBounds_toArray, List.set_cons_zero, List.set_cons_succ]
    refine wpAnyH_ready (rs := [1, 9]) (by kernel_rfl) (by simp) ?_
    refine AllReadyH.cons (o := { dst := some 19, op := Op.load 3 (Operand.tmp 18), type := 3, pos := "stats.go:10", after := #[{ on := 0, ground := Ground.data }], guard := none }) rfl (fun K hK => ?_) ?_
    · go_simp
      refine hK.out _ _ hHeld (fun hHeld => ?_)
      clear hK K
      try simp only [Act.put, List.setIfInBounds_toArray, List.set_cons_zero, List.set_cons_succ]
      refine wpAnyH_ready (rs := [9]) (by kernel_rfl) (by simp) ?_
      refine AllReadyH.cons (o := { dst := some 27, op := Op.call { callee := Callee.value (Operand.func 50), args := #[Operand.tmp 26], argTypes := #[100] }, type := 3, pos := "stats.go:10", after := #[{ on := 8, ground := Ground.data }], guard := none }) rfl (fun K hK => ?_) ?_
      · go_simp
        refine (usedSlots_agg _ _ _ (slotOf S x.1) _).mono ?_
        rintro e w2 ⟨rfl, hE⟩
        have hN1 := hN0.trans hE
        clear hE
        refine hK.out _ _ (hN1.mono (fun _ _ x => x.elim)) (fun hHeld => ?_)
        clear hK K
        try simp only [Act.put, List.setIfInBounds_toArray, List.set_cons_zero, List.set_cons_succ]
        refine wpAnyH_ready (rs := [11]) (by kernel_rfl) (by simp) ?_
        refine AllReadyH.cons (o := { dst := some 29, op := Op.call { callee := Callee.value (Operand.func 51), args := #[Operand.tmp 28], argTypes := #[3] }, type := 3, pos := "stats.go:10", after := #[{ on := 10, ground := Ground.data }, { on := 9, ground := Ground.chain }], guard := none }) rfl (fun K hK => ?_) ?_
        · go_simp
          refine (slotSize_any _ _ c0 c2).mono ?_
          rintro e w3 ⟨rfl, rfl⟩
          refine hK.out _ _ hHeld (fun hHeld => ?_)
          clear hK K
          try simp only [Act.put, List.setIfInBounds_toArray, List.set_cons_zero, List.set_cons_succ]
          refine take_dst 12 30 (v := ?_) rfl (by kernel_rfl) (by kernel_rfl) (by kernel_rfl) rfl (fun _ _ _ h => h) (Or.inl ⟨by rfl, ?_⟩) (by assumption) ?_
          rotate_left
          · intro wx hSw
            first | (go_simp; done) | (go_simp; with_reducible rfl)
          simp only [Act.put, List.setIfInBounds_toArray, List.set_cons_zero, List.set_cons_succ]
          refine take_dst 13 31 (v := ?_) rfl (by kernel_rfl) (by kernel_rfl) (by kernel_rfl) rfl (fun _ _ _ h => h) (Or.inl ⟨by rfl, ?_⟩) (by assumption) ?_
          rotate_left
          · intro wx hSw
            first | (go_simp; done) | (go_simp; with_reducible rfl)
          simp only [Act.put, List.setIfInBounds_toArray, List.set_cons_zero, List.set_cons_succ]
          refine take_dst 14 32 (v := ?_) rfl (by kernel_rfl) (by kernel_rfl) (by kernel_rfl) rfl (fun _ _ _ h => h) (Or.inl ⟨by rfl, ?_⟩) (by assumption) ?_
          rotate_left
          · intro wx hSw
            first | (go_simp; done) | (go_simp; with_reducible rfl)
          simp only [Act.put, List.setIfInBounds_toArray, List.set_cons_zero, List.set_cons_succ]
          refine wpAnyH_ready (rs := [15]) (by kernel_rfl) (by simp) ?_
          refine AllReadyH.cons (o := { dst := none, op := Op.store 3 (Operand.tmp 32) (Operand.tmp 31), type := 0, pos := "stats.go:10", after := #[{ on := 14, ground := Ground.data }, { on := 13, ground := Ground.data }, { on := 11, ground := Ground.chain }, { on := 0, ground := Ground.phase }, { on := 1, ground := Ground.phase }, { on := 2, ground := Ground.phase }, { on := 3, ground := Ground.phase }, { on := 4, ground := Ground.phase }, { on := 5, ground := Ground.phase }, { on := 6, ground := Ground.phase }, { on := 7, ground := Ground.phase }, { on := 8, ground := Ground.phase }, { on := 9, ground := Ground.phase }, { on := 10, ground := Ground.phase }, { on := 11, ground := Ground.phase }, { on := 12, ground := Ground.phase }, { on := 13, ground := Ground.phase }], guard := none }) rfl (fun K hK => ?_) ?_
          · go_simp
            refine hK.out _ _ (hHeld.setCell ⟨w.heap.size + 3, 1, none⟩ (.inl rfl) _) (fun hHeld => ?_)
            clear hK K
            try simp only [Act.put, List.setIfInBounds_toArray, List.set_cons_zero, List.set_cons_succ]
            refine wpAnyH_done (by kernel_rfl) ?_ _
            exact hfin.out _ hN1
          exact AllReadyH.nil
        exact AllReadyH.nil
      exact AllReadyH.nil
    refine AllReadyH.cons (o := { dst := some 27, op := Op.call { callee := Callee.value (Operand.func 50), args := #[Operand.tmp 26], argTypes := #[100] }, type := 3, pos := "stats.go:10", after := #[{ on := 8, ground := Ground.data }], guard := none }) rfl (fun K hK => ?_) ?_
    · go_simp
      refine (usedSlots_agg _ _ _ (slotOf S x.1) _).mono ?_
      rintro e w2 ⟨rfl, hE⟩
      have hN1 := hN0.trans hE
      clear hE
      refine hK.out _ _ (hN1.mono (fun _ _ x => x.elim)) (fun hHeld => ?_)
      clear hK K
      try simp only [Act.put, List.setIfInBounds_toArray, List.set_cons_zero, List.set_cons_succ]
      refine wpAnyH_ready (rs := [1, 11]) (by kernel_rfl) (by simp) ?_
      refine AllReadyH.cons (o := { dst := some 19, op := Op.load 3 (Operand.tmp 18), type := 3, pos := "stats.go:10", after := #[{ on := 0, ground := Ground.data }], guard := none }) rfl (fun K hK => ?_) ?_
      · go_simp
        refine hK.out _ _ hHeld (fun hHeld => ?_)
        clear hK K
        try simp only [Act.put, List.setIfInBounds_toArray, List.set_cons_zero, List.set_cons_succ]
        refine wpAnyH_ready (rs := [11]) (by kernel_rfl) (by simp) ?_
        refine AllReadyH.cons (o := { dst := some 29, op := Op.call { callee := Callee.value (Operand.func 51), args := #[Operand.tmp 28], argTypes := #[3] }, type := 3, pos := "stats.go:10", after := #[{ on := 10, ground := Ground.data }, { on := 9, ground := Ground.chain }], guard := none }) rfl (fun K hK => ?_) ?_
        · go_simp
          refine (slotSize_any _ _ c0 c2).mono ?_
          rintro e w3 ⟨rfl, rfl⟩
          refine hK.out _ _ hHeld (fun hHeld => ?_)
          clear hK K
          try simp only [Act.put, List.setIfInBounds_toArray, List.set_cons_zero, List.set_cons_succ]
          refine take_dst 12 30 (v := ?_) rfl (by kernel_rfl) (by kernel_rfl) (by kernel_rfl) rfl (fun _ _ _ h => h) (Or.inl ⟨by rfl, ?_⟩) (by assumption) ?_
          rotate_left
          · intro wx hSw
            first | (go_simp; done) | (go_simp; with_reducible rfl)
          simp only [Act.put, List.setIfInBounds_toArray, List.set_cons_zero, List.set_cons_succ]
          refine take_dst 13 31 (v := ?_) rfl (by kernel_rfl) (by kernel_rfl) (by kernel_rfl) rfl (fun _ _ _ h => h) (Or.inl ⟨by rfl, ?_⟩) (by assumption) ?_
          rotate_left
          · intro wx hSw
            first | (go_simp; done) | (go_simp; with_reducible rfl)
          simp only [Act.put, List.setIfInBounds_toArray, List.set_cons_zero, List.set_cons_succ]
          refine take_dst 14 32 (v := ?_) rfl (by kernel_rfl) (by kernel_rfl) (by kernel_rfl) rfl (fun _ _ _ h => h) (Or.inl ⟨by rfl, ?_⟩) (by assumption) ?_
          rotate_left
          · intro wx hSw
            first | (go_simp; done) | (go_simp; with_reducible rfl)
          simp only [Act.put, List.setIfInBounds_toArray, List.set_cons_zero, List.set_cons_succ]
          refine wpAnyH_ready (rs := [15]) (by kernel_rfl) (by simp) ?_
          refine AllReadyH.cons (o := { dst := none, op := Op.store 3 (Operand.tmp 32) (Operand.tmp 31), type := 0, pos := "stats.go:10", after := #[{ on := 14, ground := Ground.data }, { on := 13, ground := Ground.data }, { on := 11, ground := Ground.chain }, { on := 0, ground := Ground.phase }, { on := 1, ground := Ground.phase }, { on := 2, ground := Ground.phase }, { on := 3, ground := Ground.phase }, { on := 4, ground := Ground.phase }, { on := 5, ground := Ground.phase }, { on := 6, ground := Ground.phase }, { on := 7, ground := Ground.phase }, { on := 8, ground := Ground.phase }, { on := 9, ground := Ground.phase }, { on := 10, ground := Ground.phase }, { on := 11, ground := Ground.phase }, { on := 12, ground := Ground.phase }, { on := 13, ground := Ground.phase }], guard := none }) rfl (fun K hK => ?_) ?_
          · go_simp
            refine hK.out _ _ (hHeld.setCell ⟨w.heap.size + 3, 1, none⟩ (.inl rfl) _) (fun hHeld => ?_)
            clear hK K
            try simp only [Act.put, List.setIfInBounds_toArray, List.set_cons_zero, List.set_cons_succ]
            refine wpAnyH_done (by kernel_rfl) ?_ _
            exact hfin.out _ hN1
          exact AllReadyH.nil
        exact AllReadyH.nil
      refine AllReadyH.cons (o := { dst := some 29, op := Op.call { callee := Callee.value (Operand.func 51), args := #[Operand.tmp 28], argTypes := #[3] }, type := 3, pos := "stats.go:10", after := #[{ on := 10, ground := Ground.data }, { on := 9, ground := Ground.chain }], guard := none }) rfl (fun K hK => ?_) ?_
      · go_simp
        refine (slotSize_any _ _ c0 c2).mono ?_
        rintro e w3 ⟨rfl, rfl⟩
        refine hK.out _ _ hHeld (fun hHeld => ?_)
        clear hK K
        try simp only [Act.put, List.setIfInBounds_toArray, List.set_cons_zero, List.set_cons_succ]
        refine take_dst 12 30 (v := ?_) rfl (by kernel_rfl) (by kernel_rfl) (by kernel_rfl) rfl (fun _ _ _ h => h) (Or.inl ⟨by rfl, ?_⟩) (by assumption) ?_
        rotate_left
        · intro wx hSw
          first | (go_simp; done) | (go_simp; with_reducible rfl)
        simp only [Act.put, List.setIfInBounds_toArray, List.set_cons_zero, List.set_cons_succ]
        refine wpAnyH_ready (rs := [1]) (by kernel_rfl) (by simp) ?_
        refine AllReadyH.cons (o := { dst := some 19, op := Op.load 3 (Operand.tmp 18), type := 3, pos := "stats.go:10", after := #[{ on := 0, ground := Ground.data }], guard := none }) rfl (fun K hK => ?_) ?_
        · go_simp
          refine hK.out _ _ hHeld (fun hHeld => ?_)
          clear hK K
          try simp only [Act.put, List.setIfInBounds_toArray, List.set_cons_zero, List.set_cons_succ]
          refine take_dst 13 31 (v := ?_) rfl (by kernel_rfl) (by kernel_rfl) (by kernel_rfl) rfl (fun _ _ _ h => h) (Or.inl ⟨by rfl, ?_⟩) (by assumption) ?_
          rotate_left
          · intro wx hSw
            first | (go_simp; done) | (go_simp; with_reducible rfl)
          simp only [Act.put, List.setIfInBounds_toArray, List.set_cons_zero, List.set_cons_succ]
          refine take_dst 14 32 (v := ?_) rfl (by kernel_rfl) (by kernel_rfl) (by kernel_rfl) rfl (fun _ _ _ h => h) (Or.inl ⟨by rfl, ?_⟩) (by assumption) ?_
          rotate_left
          · intro wx hSw
            first | (go_simp; done) | (go_simp; with_reducible rfl)
          simp only [Act.put, List.setIfInBounds_toArray, List.set_cons_zero, List.set_cons_succ]
          refine wpAnyH_ready (rs := [15]) (by kernel_rfl) (by simp) ?_
          refine AllReadyH.cons (o := { dst := none, op := Op.store 3 (Operand.tmp 32) (Operand.tmp 31), type := 0, pos := "stats.go:10", after := #[{ on := 14, ground := Ground.data }, { on := 13, ground := Ground.data }, { on := 11, ground := Ground.chain }, { on := 0, ground := Ground.phase }, { on := 1, ground := Ground.phase }, { on := 2, ground := Ground.phase }, { on := 3, ground := Ground.phase }, { on := 4, ground := Ground.phase }, { on := 5, ground := Ground.phase }, { on := 6, ground := Ground.phase }, { on := 7, ground := Ground.phase }, { on := 8, ground := Ground.phase }, { on := 9, ground := Ground.phase }, { on := 10, ground := Ground.phase }, { on := 11, ground := Ground.phase }, { on := 12, ground := Ground.phase }, { on := 13, ground := Ground.phase }], guard := none }) rfl (fun K hK => ?_) ?_
          · go_simp
            refine hK.out _ _ (hHeld.setCell ⟨w.heap.size + 3, 1, none⟩ (.inl rfl) _) (fun hHeld => ?_)
            clear hK K
            try simp only [Act.put, List.setIfInBounds_toArray, List.set_cons_zero, List.set_cons_succ]
            refine wpAnyH_done (by kernel_rfl) ?_ _
            exact hfin.out _ hN1
          exact AllReadyH.nil
        exact AllReadyH.nil
      exact AllReadyH.nil
    exact AllReadyH.nil
  case done =>
    rintro D ys W hD rfl ⟨e0, e1, e2, hc, hB⟩ hKd
    have c1 := cell_of hc 0
    have c2 := cell_of hc 1
    have c3 := frozen_of e2 0
    have c4 := frozen_of e2 1
    have c5 := cell_of e2 0
    have c6 := cell_of e2 1
    simp at c1 c2 c5 c6
    have g2 := heap_set (heap_set e2 0 (.int .i64 (64 * ((mines S h c S.sups.length).length : Int)))) 1 (.int .i64 (chg S h c (mines S h c S.sups.length)))
    have hB2 := (hB.setCell (p := ⟨w.heap.size + 2, 0, none⟩) (by show _ ≤ w.heap.size + 2; omega) (.int .i64 (64 * ((mines S h c S.sups.length).length : Int)))).setCell (p := ⟨w.heap.size + 2, 1, none⟩) (by show _ ≤ w.heap.size + 2; omega) (.int .i64 (chg S h c (mines S h c S.sups.length)))
    gi_wp2
    have g2' := g2
    refine ⟨by simp, .inl ⟨_, _, rfl, run_takeDeferred ((heap_set_ne (by show D ≠ w.heap.size + 2; omega) _ _).trans ((heap_set_ne (by show D ≠ w.heap.size + 2; omega) _ _).trans hKd)), ?_⟩⟩
    refine ⟨_, results_cell_row rfl _ _ (w.heap.size + 2) _ _ _ _ rfl ((World.putObj_heap_other (by omega)).trans g2) Tryd.underlying44 rfl (by kernel_rfl), ?_⟩
    refine ⟨by rw [← chg_all S hI h c, Ti.St.held, held_len, ← mines_map S h c _ (Nat.le_refl _), List.length_map]; rfl, ?_⟩
    exact Ext.of_below (hB2.trans (belowK_b (w := w) (Nat.le_refl _) _ D _ _ (by omega) ((heap_set_ne (by show D ≠ w.heap.size + 2; omega) _ _).trans ((heap_set_ne (by show D ≠ w.heap.size + 2; omega) _ _).trans hKd)) rfl rfl))
  case stop =>
    rintro D c pre W _ _ h _
    exact h.elim

theorem statsM_any (w : World) (m bf bz : Nat) (S : Ti.St) (h c : Int) (hP : PrAt w m bf bz S) (hI : Ti.Inv0 S) (c0 : 0 ≤ c) (c2 : c ≤ 2) :
    Calls Tryd.prog 33 #[.pointer (some ⟨m, 0, none⟩), .int .i64 h, .int .i64 c] w fun e w' => e = .returned (.agg #[.int .i64 (S.held h c), .int .i64 (S.charged h c)]) ∧ Ext none1 w w' :=
  (callsIn_wide (n := 9)).1 (stats_in 9 (by omega) w m bf bz S h c hP hI c0 c2)
end Go.Proofs.YtbagfepdmmfegaaDoor
