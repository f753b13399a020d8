import Derived.Test.YtbagfepdmmfegaaDoorK29
import Derived.Test.YtbagfepdmmfegaaDoorK30
set_option linter.unusedVariables false
set_option linter.unusedSimpArgs false
/- A FARM WITH A BOX BESIDE IT; what is known of the blocks that are told. -/
namespace Go.Proofs.YtbagfepdmmfegaaDoor
open Go.RowKit Go.Shelf

/-- a farm in the middle of a script, a block of the statement's own beside it -/
def MidF (PA : World → Nat → (Nat → Prop) → Ti.St → Prop) (W V : World) (fl : Nat) (S : Ti.St) (L : List Hb) (mb : Nat) : Prop :=
  ∃ foot, FarmAt PA V fl (fl + 1) foot S L ∧ Ext none1 W V ∧ (∀ k, foot k → W.heap.size ≤ k) ∧ ¬ foot mb ∧ mb < V.heap.size ∧ W.heap.size ≤ mb ∧ 0 < mb
theorem MidF.step {PA : World → Nat → (Nat → Prop) → Ti.St → Prop} {W V : World} {fl : Nat} {S : Ti.St} {L : List Hb} {mb : Nat} (F : Face PA True) (hm : MidF PA W V fl S L mb) (o : O3) (ho : o.ok) :
    Calls Tryd.prog 15 #[.pointer (some ⟨fl, 0, none⟩), .agg #[.int .i64 o.k, .int .i64 o.a, .int .i64 o.b]] V fun e V' => e = .returned (.bool true) ∧ ∃ S' L', MidF PA W V' fl S' L' mb ∧ (∀ ob, V.heap[mb]? = some ob → V'.heap[mb]? = some ob) := by
  obtain ⟨foot, hA, hE, hf, h5, h6, h7⟩ := hm
  have hlt := hA.flt _ hA.ffl
  refine (step_any F trivial V fl (fl + 1) foot S L hA (by omega) o.k o.a o.b ho.1 ho.2.1 ho.2.2.1 ho.2.2.2).mono ?_
  rintro e V' ⟨rfl, foot', S', L', q1, q2, q3, _⟩
  have hE' : Ext none1 W V' := hE.trans' q2 (fun k hk hk' => by have := hf k hk'; omega)
  refine ⟨rfl, S', L', ⟨foot', q1, hE', fun k hk => ?_, fun hh => ?_, by have := q2.size; omega, h7⟩, fun ob hob => q2.keep hob h5⟩
  · rcases q3 k hk with q | q
    · exact hf k q
    · have := hE.size; omega
  · rcases q3 _ hh with q | q
    · exact h5 q
    · omega
theorem MidF.keep {PA : World → Nat → (Nat → Prop) → Ti.St → Prop} {W V V' : World} {fl : Nat} {S : Ti.St} {L : List Hb} {mb : Nat} {big : Prop} (F : Face PA big) (hm : MidF PA W V fl S L mb) (hE : Ext none1 V V') : MidF PA W V' fl S L mb := by
  obtain ⟨foot, hA, hE0, hf, h5, h6, h7⟩ := hm
  exact ⟨foot, hA.keep F hE (fun _ _ x => x) (fun x => x), hE0.trans hE, hf, h5, by have := hE.size; omega, h7⟩
theorem Mid.f {PA : World → Nat → (Nat → Prop) → Ti.St → Prop} {W V : World} {fl : Nat} {h n s : Int} {S : Ti.St} {L : List Hb} {big : Prop} (F : Face PA big) (hm : Mid PA W V fl h n s S L) (hw : 0 < W.heap.size) (ob : Obj) : MidF PA W (V.alloc ob) fl S L V.heap.size := by
  obtain ⟨foot, hA, hE, hf, hfl, h1, h2, h3, h4⟩ := hm
  have := hE.size
  exact ⟨foot, hA.keep F ((Ext.refl none1 _).alloc ob) (fun _ _ x => x) (fun x => x), hE.alloc _, hf, fun hh => by have := hA.flt _ hh; omega, by simp, hE.size, by omega⟩

/-- is it one of the first i blocks? -/
def knownTo (L : List Hb) (y : Int × Int) (i : Nat) : Bool := (L.take i).any (fun z => decide (z.b.at_ = y.1) && decide (z.b.size = y.2))
theorem knownTo_succ (L : List Hb) (y : Int × Int) (i : Nat) (z : Hb) (hz : L[i]? = some z) : knownTo L y (i + 1) = (knownTo L y i || (decide (z.b.at_ = y.1) && decide (z.b.size = y.2))) := by
  unfold knownTo
  rw [List.take_add_one, hz]
  simp only [Option.toList_some, List.any_append, List.any_cons, List.any_nil, Bool.or_false]
theorem knownTo_all {S : Ti.St} {L : List Hb} (h : Ti.FarmOk S (L.map Hb.b)) (y : Int × Int) (hy : y ∈ S.blocks) : knownTo L y L.length = true := by
  unfold knownTo
  rw [List.take_length, List.any_eq_true]
  have := h.perm.mem_iff.2 hy
  rw [List.map_map] at this
  obtain ⟨z, hz, e⟩ := List.mem_map.1 this
  refine ⟨z, hz, ?_⟩
  rw [← e]
  simp [Ti.Bl.key]
/-- the last address that was told -/
def lastOf (pre : List (Int × Int)) : Int := (pre.getLast?.map Prod.fst).getD (-1)
theorem lastOf_snoc (pre : List (Int × Int)) (y : Int × Int) : lastOf (pre ++ [y]) = y.1 := by simp [lastOf]
theorem lastOf_lt {S : Ti.St} (hI : Ti.Inv0 S) {pre : List (Int × Int)} {y : Int × Int} (h : pre ++ [y] <+: S.blocks) : y ∈ S.blocks ∧ lastOf pre < y.1 ∧ 0 ≤ y.1 ∧ pre.length < S.blocks.length ∧ -1 ≤ lastOf pre ∧ y.1 ≤ 1024 := by
  have hy : y ∈ S.blocks := h.subset (by simp)
  have hok := hI.ok y hy
  have h16 := hI.f16
  have hy0 : 0 ≤ y.1 := hok.2.2.1
  have hy1 : y.1 < 64 * S.sups.length := hok.2.2.2.1
  have hl : pre.length < S.blocks.length := by have := h.length_le; simp at this; omega
  refine ⟨hy, ?_, hy0, hl, ?_, by omega⟩
  · unfold lastOf
    cases hp : pre.getLast? with
    | none => simp; omega
    | some z =>
      simp only [Option.map_some, Option.getD_some]
      obtain ⟨pre', rfl⟩ : ∃ pre', pre = pre' ++ [z] := by
        obtain ⟨q, hq⟩ := List.getLast?_eq_some_iff.1 hp
        exact ⟨q, hq⟩
      have := hI.sorted.sublist h.sublist
      rw [List.append_assoc, List.pairwise_append] at this
      have := this.2.1
      simp at this
      exact this
  · unfold lastOf
    cases hp : pre.getLast? with
    | none => simp
    | some z =>
      simp only [Option.map_some, Option.getD_some]
      have hz : z ∈ S.blocks := h.subset (by simp [List.mem_of_getLast? hp])
      have := (hI.ok z hz).2.2.1
      omega
theorem blocks_len {S : Ti.St} {L : List Hb} (h : Ti.FarmOk S (L.map Hb.b)) : S.blocks.length = L.length := by
  have := h.perm.length_eq
  simpa using this.symm

/-- range_J, the round's frame told by what it makes of the one who ranges -/
theorem range_G {α : Type} (g2 : α → Array Value → Array Value) {F : Fence} {n : Nat} {P : Program} {g : Operand} {ps : Array Tmp} {assign body : Code} {Q : Exit → Act → World → Prop} {a : Act} {w : World}
    (hro : F.round = none) (h1 : 1 ≤ n) {gf : Nat} {lb : Array Value} (hg : a.eval g = .func (.func gf) #[] lb) (hFg : F.fn gf) (eg : ∀ args w, (callFunc gf args).run P w = .ok (.enter gf args) w)
    {encs : α → Array Value} {Ok : List α → α → Prop} {Kp : Nat → World → World → Prop} {Rd : List α → World → Prop} {S Sp : List α → Prop} (hseq : SeqJ F (n - 1) P gf lb encs Ok Kp Rd S Sp w)
    (hKt : ∀ {l : Nat} {A B C : World}, Kp l A B → Kp l B C → Kp l A C) (hKb : ∀ (W : World) (l : Nat) (o : Obj), w.heap.size ≤ l → Kp l W (W.putObj l o)) (hps : ∀ x, (encs x).size = ps.size)
    (I : List α → World → Prop) (Ix : Code → List α → World → Prop) (hI : OwnFrom w.heap.size I) (hIx : ∀ c, OwnFrom w.heap.size (Ix c)) (hRd : ∀ pre W, I pre W → Rd pre W) (h0 : I [] w)
    (hassign : ∀ (l : Nat) (x : α) (W : World) (K : Act → World → Prop), K { tmps := g2 x a.tmps, defers := [] } W →
      assign.wpIn (F.inRound l) (n - 1 - 1) P (Exit.then K (fun _ _ _ => False)) { tmps := (ps.zip (encs x)).foldl (fun t (p, v) => t.setIfInBounds p v) a.tmps, defers := [] } W)
    (hbody : ∀ (l : Nat) (pre : List α) (x : α) (W : World), w.heap.size ≤ l → I pre W → Ok pre x → body.wpIn (F.inRound l) (n - 1 - 1) P (ownPostG w.heap.size (Kp l) I Ix (pre ++ [x]) W) { tmps := g2 x a.tmps, defers := [] } W)
    (hdone : ∀ (D : Nat) (xs : List α) (W : World), w.heap.size ≤ D → S xs → I xs W → W.heap[D]? = some (.deferred (some [])) → Q .normal { a with defers := { target := .collected D, args := #[] } :: a.defers } W)
    (hstop : ∀ (D : Nat) (c : Code) (pre : List α) (W : World), w.heap.size ≤ D → Sp pre → Ix c pre W → W.heap[D]? = some (.deferred (some [])) → c.wpIn F n P Q { a with defers := { target := .collected D, args := #[] } :: a.defers } W) :
    (Code.rangeFunc g ps assign body).wpIn F n P Q a w :=
  range_J hro h1 hg hFg eg hseq hKt hKb hps I Ix hI hIx hRd h0 (fun x => { tmps := g2 x a.tmps, defers := [] }) hassign hbody hdone hstop
theorem ownPure {β : Type} {B : Nat} {p : β → Prop} : OwnFrom B (fun (s : β) (_ : World) => p s) := fun _ _ _ _ h _ _ => h
theorem heapQ (w : World) (a b c d : Obj) : ((((w.alloc a).alloc b).alloc c).alloc d).heap[w.heap.size]? = some a ∧ ((((w.alloc a).alloc b).alloc c).alloc d).heap[w.heap.size + 1]? = some b ∧ ((((w.alloc a).alloc b).alloc c).alloc d).heap[w.heap.size + 2]? = some c ∧ ((((w.alloc a).alloc b).alloc c).alloc d).heap[w.heap.size + 3]? = some d := by
  obtain ⟨h1, h2, h3⟩ := heap3 w a b c
  have e : Ext none1 (((w.alloc a).alloc b).alloc c) ((((w.alloc a).alloc b).alloc c).alloc d) := (Ext.refl _ _).alloc _
  refine ⟨e.keep h1 (fun x => x), e.keep h2 (fun x => x), e.keep h3 (fun x => x), ?_⟩
  have := heap_alloc_new (((w.alloc a).alloc b).alloc c) d
  simpa using this
/-- a farm in the middle of a script, its footprint named -/
theorem MidF.named {PA : World → Nat → (Nat → Prop) → Ti.St → Prop} {W V : World} {fl : Nat} {S : Ti.St} {L : List Hb} {mb : Nat} (F : Face PA True) (hm : MidF PA W V fl S L mb) :
    ∃ foot : Nat → Prop, ¬ foot mb ∧ (∀ k, foot k → W.heap.size ≤ k) ∧ ∀ (w : World) (o : O3), o.ok → Ext none1 V w →
      Calls Tryd.prog 15 #[.pointer (some ⟨fl, 0, none⟩), .agg #[.int .i64 o.k, .int .i64 o.a, .int .i64 o.b]] w fun e V' => e = .returned (.bool true) ∧ Ext foot V V' ∧ ∃ S' L', MidF PA W V' fl S' L' mb := by
  obtain ⟨foot, hA, hE, hf, h5, h6, h7⟩ := hm
  refine ⟨foot, h5, hf, fun w o ho hw => ?_⟩
  have hA' := hA.keep F hw (fun _ _ x => x) (fun x => x)
  have hlt := hA'.flt _ hA'.ffl
  have hsw := hw.size
  refine (step_any F trivial w fl (fl + 1) foot S L hA' (by omega) o.k o.a o.b ho.1 ho.2.1 ho.2.2.1 ho.2.2.2).mono ?_
  rintro e V' ⟨rfl, foot', S', L', q1, q2, q3, _⟩
  have hE' : Ext none1 W V' := (hE.trans hw).trans' q2 (fun k hk hk' => by have := hf k hk'; omega)
  refine ⟨rfl, (hw.mono (fun _ _ x => x.elim)).trans q2, S', L', foot', q1, hE', fun k hk => ?_, fun hh => ?_, by have := q2.size; omega, h7⟩
  · rcases q3 k hk with q | q
    · exact hf k q
    · have := hE.size; omega
  · rcases q3 _ hh with q | q
    · exact h5 q
    · omega
/-- a region that draws its order, where nothing panics -/
theorem wp_region_calm {P : Program} {id : Nat} {ops : Array Oper} {Q : Exit → Act → World → Prop} {a : Act} {w : World} (S : World → Prop) (hm : P.follows .mixedOrders = true) (hS : S w.drew)
    (h : S w.drew → wpAnyH P .any ops (fun e a w => (∀ c, e ≠ .panic c) ∧ Q e a w) S ops.size (Array.replicate ops.size false) a w.drew) : (Code.region id ops true).wp P Q a w :=
  (wpIn_wide (n := 0)).1 (wpIn_mono (wpIn_wide.2 (wp_region_held_drew hm hS h)) (fun _ _ _ hh => hh.2))
end Go.Proofs.YtbagfepdmmfegaaDoor
