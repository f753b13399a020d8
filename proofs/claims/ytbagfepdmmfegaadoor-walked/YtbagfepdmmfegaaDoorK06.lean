import Derived.Test.YtbagfepdmmfegaaDoorK05
import Derived.RangeFuncNested
import Derived.RangeFuncBound
import Derived.RangeFuncCalls
import Derived.RangeFuncLeaves
import Derived.Shelf.Abstract
import Derived.Shelf.RegionOpen
import Derived.OwnWalkIn
import Derived.TacticsInMore
import Derived.LoopNIn
import Derived.LoopIn
set_option linter.unusedVariables false
set_option linter.unusedSimpArgs false
/- A RANGE OVER A FUNCTION, where the iterator may itself range over another one, and may lean on what the caller's own invariant says. -/
namespace Go.Proofs.YtbagfepdmmfegaaDoor
open Go.RowKit Go.Shelf

/-- An iterator's contract at whatever invariant J of the one who ranges, if J speaks of nothing but cells among the new blocks, and says 'Rd'. 'Ok pre x': x may be told behind pre. -/
def SeqJ {α : Type} (F : Fence) (n : Nat) (P : Program) (g : Nat) (lb : Array Value) (encs : α → Array Value) (Ok : List α → α → Prop) (Kp : Nat → World → World → Prop) (Rd : List α → World → Prop) (S Sp : List α → Prop) (w : World) : Prop :=
  ∀ (l : Nat) (J Jx : List α → World → Prop) (W : World), w.heap.size ≤ l → l < W.heap.size → Below w.heap.size w W → OwnFrom W.heap.size J → OwnFrom W.heap.size Jx → (∀ pre W1, J pre W1 → Rd pre W1) →
    (∀ pre x W1, J pre W1 → Ok pre x → YieldAt F (n - 1) P l (encs x) W1 fun e W' =>
      (e = .returned (.bool true) ∧ J (pre ++ [x]) W' ∧ Kp l W1 W') ∨ (e = .returned (.bool false) ∧ Jx (pre ++ [x]) W' ∧ KeepsFrom W.heap.size W1 W')) →
    J [] W →
    CallsIn F n P g (#[.func (.yield l) #[] #[]] ++ lb) W fun e W' => (∃ v, e = .returned v) ∧ ((∃ xs, S xs ∧ J xs W') ∨ (∃ pre, Sp pre ∧ Jx pre W'))

/-- blocks that are no cells, and lie below B, stay -/
theorem grown_keep {A B : World} {row : Option Nat} {k m : Nat} {o : Obj} (hg : A.grownBy B row) (hr : ∀ r, row = some r → m ≤ r) (hk : k < m) (h : A.heap[k]? = some o) : B.heap[k]? = some o :=
  (hg.block k (lt_of_heap h) (fun e => by have := hr k e.symm; omega)).trans h

theorem range_J {α : Type} {F : Fence} {n : Nat} {P : Program} {g : Operand} {ps : Array Tmp} {assign body : Code} {Q : Exit → Act → World → Prop} {a : Act} {w : World}
    (hro : F.round = none) (h1 : 1 ≤ n) {gf : Nat} {lb : Array Value} (hg : a.eval g = .func (.func gf) #[] lb) (hFg : F.fn gf) (eg : ∀ args w, (callFunc gf args).run P w = .ok (.enter gf args) w)
    {encs : α → Array Value} {Ok : List α → α → Prop} {Kp : Nat → World → World → Prop} {Rd : List α → World → Prop} {S Sp : List α → Prop} (hseq : SeqJ F (n - 1) P gf lb encs Ok Kp Rd S Sp w)
    (hKt : ∀ {l : Nat} {A B C : World}, Kp l A B → Kp l B C → Kp l A C) (hKb : ∀ (W : World) (l : Nat) (o : Obj), w.heap.size ≤ l → Kp l W (W.putObj l o)) (hps : ∀ x, (encs x).size = ps.size)
    (I : List α → World → Prop) (Ix : Code → List α → World → Prop) (hI : OwnFrom w.heap.size I) (hIx : ∀ c, OwnFrom w.heap.size (Ix c)) (hRd : ∀ pre W, I pre W → Rd pre W) (h0 : I [] w) (a₁ : α → Act)
    (hassign : ∀ (l : Nat) (x : α) (W : World) (K : Act → World → Prop), K (a₁ x) W →
      assign.wpIn (F.inRound l) (n - 1 - 1) P (Exit.then K (fun _ _ _ => False)) { tmps := (ps.zip (encs x)).foldl (fun t (p, v) => t.setIfInBounds p v) a.tmps, defers := [] } W)
    (hbody : ∀ (l : Nat) (pre : List α) (x : α) (W : World), w.heap.size ≤ l → I pre W → Ok pre x → body.wpIn (F.inRound l) (n - 1 - 1) P (ownPostG w.heap.size (Kp l) I Ix (pre ++ [x]) W) (a₁ x) W)
    (hdone : ∀ (D : Nat) (xs : List α) (W : World), w.heap.size ≤ D → S xs → I xs W → W.heap[D]? = some (.deferred (some [])) → Q .normal { a with defers := { target := .collected D, args := #[] } :: a.defers } W)
    (hstop : ∀ (D : Nat) (c : Code) (pre : List α) (W : World), w.heap.size ≤ D → Sp pre → Ix c pre W → W.heap[D]? = some (.deferred (some [])) → c.wpIn F n P Q { a with defers := { target := .collected D, args := #[] } :: a.defers } W) :
    (Code.rangeFunc g ps assign body).wpIn F n P Q a w := by
  refine wpIn_rangeFunc fun fn hfn => ?_
  rw [hro]
  -- the record of the loop, in a state, with a pending jump
  let R : LoopState → Option Code → Loop := fun st pe => ⟨st, pe, fn, a.tmps, ps, assign, body, w.heap.size⟩
  let W1 := (w.alloc (.deferred (some []))).alloc (.loop (R .ready none))
  have s1 : W1.heap.size = w.heap.size + 2 := by simp [W1]
  have rec1 : W1.heap[w.heap.size + 1]? = some (.loop (R .ready none)) := by
    have := heap_alloc_new (w.alloc (.deferred (some []))) (.loop (R .ready none)); rwa [World.size_alloc] at this
  have def1 : W1.heap[w.heap.size]? = some (.deferred (some [])) := (Below.heap_alloc _ _ _ (by simp)).trans (heap_alloc_new w _)
  have low : ∀ {X Y : World} {row : Option Nat}, (∀ r, row = some r → W1.heap.size ≤ r ∧ ∃ o : Obj, X.heap[r]? = some o ∧ o.isCells = false) → ∀ r, row = some r → w.heap.size ≤ r ∧ ∃ o : Obj, X.heap[r]? = some o ∧ o.isCells = false :=
    fun h r e => ⟨by have := (h r e).1; omega, (h r e).2⟩
  have far : ∀ {X : World} {row : Option Nat}, (∀ r, row = some r → W1.heap.size ≤ r ∧ ∃ o : Obj, X.heap[r]? = some o ∧ o.isCells = false) → ∀ r, row = some r → w.heap.size + 2 ≤ r :=
    fun h r e => by have := (h r e).1; omega
  refine ⟨w.heap.size + 1, _, W1, ⟨.fn (.func gf) lb, #[.func (.yield (w.heap.size + 1)) #[] #[]]⟩, W1, gf, #[.func (.yield (w.heap.size + 1)) #[] #[]] ++ lb, W1, run_enterLoop_outer _ _ _ _ _, ?_, ?_, ?_, fun _ => h1, ?_⟩
  · simp only [resolve, hg]; simp [go_sem]
  · intro f' hf'; simp [Target.leads] at hf'; rw [← hf']; exact hFg
  · simp [invoke, go_sem, eg]
  refine (hseq (w.heap.size + 1)
    (fun pre W => I pre W ∧ W.heap[w.heap.size + 1]? = some (.loop (R .ready none)) ∧ W.heap[w.heap.size]? = some (.deferred (some [])))
    (fun pre W => ∃ c, Ix c pre W ∧ W.heap[w.heap.size + 1]? = some (.loop (R .done (some c))) ∧ W.heap[w.heap.size]? = some (.deferred (some [])))
    W1 (by omega) (by omega) (((Below.refl _ w).alloc (Nat.le_refl _) _).alloc (by simp) _) ?_ ?_ (fun pre W h => hRd pre W h.1) ?_ ⟨hI.alloc _ (hI.alloc _ h0), rec1, def1⟩).mono ?_
  · rintro s X Y row ⟨i, r, d⟩ gr hr
    exact ⟨hI s X Y row i gr (low (Y := Y) hr), grown_keep gr (far hr) (by omega) r, grown_keep gr (far hr) (by omega) d⟩
  · rintro s X Y row ⟨c, i, r, d⟩ gr hr
    exact ⟨c, hIx c s X Y row i gr (low (Y := Y) hr), grown_keep gr (far hr) (by omega) r, grown_keep gr (far hr) (by omega) d⟩
  · -- a round
    rintro pre x W ⟨i, r, d⟩ ok
    have rl := lt_of_heap r
    have hy := run_yield (P := P) (args := encs x) r (hps x)
    have b2 : (W.putObj (w.heap.size + 1) (.loop (R .busy none))).heap[w.heap.size + 1]? = some (.loop (R .busy none)) := World.putObj_heap_same rl
    have d2 : (W.putObj (w.heap.size + 1) (.loop (R .busy none))).heap[w.heap.size]? = some (.deferred (some [])) := (World.putObj_heap_other (by omega)).trans d
    refine ⟨fn, _, assign, body, hy, roundIn_of_wpIn hfn (hassign _ x W _ ⟨_, run_beginRound r rfl, ?_⟩)⟩
    refine wpIn_mono (hbody (w.heap.size + 1) pre x (W.putObj (w.heap.size + 1) (.loop (R .busy none))) (by omega) (hI.putObj _ i (by omega) r rfl) ok) ?_
    have keeps : ∀ (V : World) (o : Obj), KeepsFrom w.heap.size (W.putObj (w.heap.size + 1) (.loop (R .busy none))) V → KeepsFrom W1.heap.size W (V.putObj (w.heap.size + 1) o) := by
      intro V o kp
      refine ⟨by have := kp.size; simp at this ⊢; omega, fun k o' hk h0 hc => ?_⟩
      rw [World.putObj_heap_other (by omega)]
      exact kp.same k o' (by omega) ((World.putObj_heap_other (by omega)).trans h0) hc
    have out : ∀ (j : Option Code) (V : World), KeepsFrom w.heap.size (W.putObj (w.heap.size + 1) (.loop (R .busy none))) V →
        ∃ st, st = (if j.isNone = true then LoopState.ready else .done) ∧ V.heap[w.heap.size + 1]? = some (.loop (R .busy none)) ∧
          (Instr.endRound (w.heap.size + 1) j).run P V = .ok (.bool j.isNone) (V.putObj (w.heap.size + 1) (.loop (R st j))) ∧
          (V.putObj (w.heap.size + 1) (.loop (R st j))).heap[w.heap.size + 1]? = some (.loop (R st j)) ∧ (V.putObj (w.heap.size + 1) (.loop (R st j))).heap[w.heap.size]? = some (.deferred (some [])) := by
      intro j V kp
      have r3 := kp.same _ _ (by omega) b2 rfl
      exact ⟨_, rfl, r3, run_endRound j r3, World.putObj_heap_same (lt_of_heap r3), (World.putObj_heap_other (by omega)).trans (kp.same _ _ (Nat.le_refl _) d2 rfl)⟩
    intro e a3 V hp
    cases e with
    | normal =>
      obtain ⟨k3, kp3, i3⟩ := hp
      obtain ⟨st, hst, r3, er, r4, d4⟩ := out none V k3
      have hst : st = .ready := hst
      subst hst
      exact ⟨_, _, er, .inl ⟨rfl, ⟨hI.putObj _ i3 (by omega) r3 rfl, r4, d4⟩, hKt (hKt (hKb _ _ _ (by omega)) kp3) (hKb _ _ _ (by omega))⟩⟩
    | ret =>
      obtain ⟨k3, i3⟩ := hp
      obtain ⟨st, hst, r3, er, r4, d4⟩ := out (some .ret) V k3
      have hst : st = .done := hst
      subst hst
      exact ⟨_, _, er, .inr ⟨rfl, ⟨_, (hIx _).putObj _ i3 (by omega) r3 rfl, r4, d4⟩, keeps V _ k3⟩⟩
    | exit id =>
      obtain ⟨k3, i3⟩ := hp
      obtain ⟨st, hst, r3, er, r4, d4⟩ := out (some (.exit id)) V k3
      have hst : st = .done := hst
      subst hst
      exact ⟨_, _, er, .inr ⟨rfl, ⟨_, (hIx _).putObj _ i3 (by omega) r3 rfl, r4, d4⟩, keeps V _ k3⟩⟩
    | goto t =>
      obtain ⟨k3, i3⟩ := hp
      obtain ⟨st, hst, r3, er, r4, d4⟩ := out (some (.goto t)) V k3
      have hst : st = .done := hst
      subst hst
      exact ⟨_, _, er, .inr ⟨rfl, ⟨_, (hIx _).putObj _ i3 (by omega) r3 rfl, r4, d4⟩, keeps V _ k3⟩⟩
    | panic ch => exact hp.elim
    | outgrown => exact hp.elim
  · -- behind the iterator
    rintro e V ⟨⟨v, rfl⟩, (⟨xs, hS, i, r, d⟩ | ⟨pre, hSp, c, i, r, d⟩)⟩
    · exact ⟨none, _, run_endLoop r (fun h => by cases h), hdone _ xs _ (Nat.le_refl _) hS (hI.putObj _ i (by omega) r rfl) ((World.putObj_heap_other (by omega)).trans d)⟩
    · exact ⟨some c, _, run_endLoop r (fun h => by cases h), hstop _ c pre _ (Nat.le_refl _) hSp ((hIx c).putObj _ i (by omega) r rfl) ((World.putObj_heap_other (by omega)).trans d)⟩

/-- the blocks of K that lie there lie as they lay -/
def Stay (K : Nat → Prop) (A B : World) : Prop := ∀ k o, K k → A.heap[k]? = some o → B.heap[k]? = some o
theorem Stay.refl (K : Nat → Prop) (A : World) : Stay K A A := fun _ _ _ h => h
theorem Stay.trans {K : Nat → Prop} {A B C : World} (h : Stay K A B) (k : Stay K B C) : Stay K A C := fun i o hi ho => k i o hi (h i o hi ho)
theorem Stay.alloc {K : Nat → Prop} {A B : World} (h : Stay K A B) (o : Obj) : Stay K A (B.alloc o) :=
  fun k o' hk ho => (Below.heap_alloc _ _ _ (lt_of_heap (h k o' hk ho))).trans (h k o' hk ho)
theorem Stay.of_ext {K X : Nat → Prop} {A B : World} (h : Ext X A B) (hK : ∀ k, K k → ¬ X k) : Stay K A B := fun _ _ hk ho => h.keep ho (hK _ hk)
theorem Stay.setCell {K : Nat → Prop} {A B : World} (h : Stay K A B) (p : Addr) (hp : ¬ K p.block) (v : Value) : Stay K A (B.setCell p v) :=
  fun k o hk ho => (Below.heap_setCell _ _ _ _ (fun e => hp (by rw [← e]; exact hk))).trans (h k o hk ho)
theorem Stay.mono {K K' : Nat → Prop} {A B : World} (h : Stay K A B) (hk : ∀ k, K' k → K k) : Stay K' A B := fun k o h' => h k o (hk k h')
/-- all but X and l -/
def but (X : Nat → Prop) (l : Nat) : Nat → Prop := fun k => ¬ X k ∧ k ≠ l
theorem stay_put (X : Nat → Prop) (W : World) (l : Nat) (o : Obj) : Stay (but X l) W (W.putObj l o) := fun _ _ hk ho => (World.putObj_heap_other hk.2).trans ho

/-- the kit's contracts serve -/
theorem SeqJ.of_stops {α : Type} {F : Fence} {n : Nat} {P : Program} {g : Nat} {lb : Array Value} {encs : α → Array Value} {K X : Nat → Prop} {S Sp : List α → Prop} {N : Nat} {w : World} (hK : ∀ k, K k → k < w.heap.size ∧ ¬ X k)
    (h : SeqStopsK F n P g lb encs (Stay K) S Sp N w) : SeqJ F n P g lb encs (fun pre _ => pre.length < N) (fun l => Stay (but X l)) (fun _ _ => True) S Sp w := fun l J Jx W hl _ hW hJ hJx _ hY h0 =>
  h l J Jx W hW (fun s A B row hs hg hr => hJ s A B row hs hg (fun r e => by obtain ⟨a, o, b, c⟩ := hr r e; exact ⟨a, o, b, Obj.not_cells_of_walk c⟩))
    (fun s A B row hs hg hr => hJx s A B row hs hg (fun r e => by obtain ⟨a, o, b, c⟩ := hr r e; exact ⟨a, o, b, Obj.not_cells_of_walk c⟩))
    (fun pre x W1 hj hp => (hY pre x W1 hj hp).mono fun e V hv => by
      rcases hv with ⟨a, b, c⟩ | hv
      · exact .inl ⟨a, b, c.mono (fun k hk => ⟨(hK k hk).2, by have := (hK k hk).1; omega⟩)⟩
      · exact .inr ⟨hv.1, hv.2.1⟩) h0
theorem SeqJ.later {α : Type} {F : Fence} {n : Nat} {P : Program} {g : Nat} {lb : Array Value} {encs : α → Array Value} {Ok : List α → α → Prop} {Kp : Nat → World → World → Prop} {Rd : List α → World → Prop} {S Sp : List α → Prop} {w w1 : World} (h : SeqJ F n P g lb encs Ok Kp Rd S Sp w) (hb : Below w.heap.size w w1) :
    SeqJ F n P g lb encs Ok Kp Rd S Sp w1 := fun l J Jx W hl hl' hW hJ hJx hR hY h0 => h l J Jx W (Nat.le_trans hb.size hl) hl' (hb.trans (hW.mono hb.size)) hJ hJx hR hY h0
end Go.Proofs.YtbagfepdmmfegaaDoor

namespace Go.Proofs.YtbagfepdmmfegaaDoor
open Go.RowKit Go.Shelf
attribute [local go_sem] Oper.semAt_some

/-! ### the program's memory, of a state -/
def pk (S : Ti.St) (f : Nat) : Int := if (S.sup f).is = true then 1 else if Ti.coverTo S.blocks f S.blocks.length = true then 2 else 0
def ph (S : Ti.St) (f : Nat) : Int := if (S.sup f).is = true then (S.sup f).heap else 0
def pc (S : Ti.St) (f : Nat) : Int := if (S.sup f).is = true then (S.sup f).cls else 0
def sizeAt (bs : List (Int × Int)) (a : Int) : Int := if 0 ≤ Ti.atI bs a then (Ti.bk bs (Ti.atI bs a).toNat).2 else 0
def slotOf (S : Ti.St) (f m : Nat) : Int := if (S.sup f).is = true ∧ (m : Int) < Ti.slots (S.sup f).cls then sizeAt S.blocks (64 * f + m * Ti.width (S.sup f).cls) else if (S.sup f).is = false ∧ m = 0 then sizeAt S.blocks (64 * f) else 0

def FrAt (w : World) (bf : Nat) (S : Ti.St) : Prop :=
  ∃ c, w.heap[bf]? = some (.cells c 100 (0, 0)) ∧ c.size = S.sups.length * 11 ∧
    ∀ f, f < S.sups.length → c[f * 11]? = some (.int .i64 (pk S f)) ∧ c[f * 11 + 1]? = some (.int .i64 (ph S f)) ∧ c[f * 11 + 2]? = some (.int .i64 (pc S f)) ∧ ∀ m, m < 8 → c[f * 11 + 3 + m]? = some (.int .i64 (slotOf S f m))
def ByAt (w : World) (bz : Nat) (l : List Int) : Prop :=
  ∃ c, w.heap[bz]? = some (.cells c 5 (0, 0)) ∧ c.size = l.length ∧ ∀ k, k < l.length → c[k]? = some (.int .u8 (l[k]?.getD 0))
structure PrAt (w : World) (m bf bz : Nat) (S : Ti.St) : Prop where
  hd : w.heap[m]? = some (.cells #[.int .i64 S.heaps, .int .i64 S.slack, .slice (some ⟨bf, 0, none⟩) S.sups.length S.sups.length, .slice (some ⟨bz, 0, none⟩) S.bytes.length S.bytes.length] 95 (0, 0))
  fr : FrAt w bf S
  bytes : ByAt w bz S.bytes

theorem PrAt.stay {K : Nat → Prop} {A B : World} {m bf bz : Nat} {S : Ti.St} (h : PrAt A m bf bz S) (hs : Stay K A B) (h1 : K m) (h2 : K bf) (h3 : K bz) : PrAt B m bf bz S :=
  ⟨hs m _ h1 h.hd, let ⟨c, a, b⟩ := h.fr; ⟨c, hs bf _ h2 a, b⟩, let ⟨c, a, b⟩ := h.bytes; ⟨c, hs bz _ h3 a, b⟩⟩
theorem PrAt.ext {X : Nat → Prop} {A B : World} {m bf bz : Nat} {S : Ti.St} (h : PrAt A m bf bz S) (hs : Ext X A B) (h1 : ¬ X m) (h2 : ¬ X bf) (h3 : ¬ X bz) : PrAt B m bf bz S :=
  ⟨hs.keep h.hd h1, let ⟨c, a, b⟩ := h.fr; ⟨c, hs.keep a h2, b⟩, let ⟨c, a, b⟩ := h.bytes; ⟨c, hs.keep a h3, b⟩⟩
theorem PrAt.keep0 {A B : World} {m bf bz : Nat} {S : Ti.St} (h : PrAt A m bf bz S) (hs : Ext none1 A B) : PrAt B m bf bz S := h.ext hs (fun x => x) (fun x => x) (fun x => x)

theorem PrAt.c2 {w : World} {m bf bz : Nat} {S : Ti.St} (h : PrAt w m bf bz S) : w.cell? ⟨m, 2, none⟩ = some (.slice (some ⟨bf, 0, none⟩) S.sups.length S.sups.length) := by rw [cell_of h.hd]; rfl
theorem PrAt.fc {w : World} {m bf bz : Nat} {S : Ti.St} (h : PrAt w m bf bz S) (f : Nat) (hf : f < S.sups.length) :
    w.cell? ⟨bf, f * 11, none⟩ = some (.int .i64 (pk S f)) ∧ w.cell? ⟨bf, f * 11 + 1, none⟩ = some (.int .i64 (ph S f)) ∧ w.cell? ⟨bf, f * 11 + 2, none⟩ = some (.int .i64 (pc S f)) ∧
    w.cell? ⟨bf, f * 11 + 3, none⟩ = some (.int .i64 (slotOf S f 0)) ∧ w.cell? ⟨bf, f * 11 + 4, none⟩ = some (.int .i64 (slotOf S f 1)) ∧ w.cell? ⟨bf, f * 11 + 5, none⟩ = some (.int .i64 (slotOf S f 2)) ∧
    w.cell? ⟨bf, f * 11 + 6, none⟩ = some (.int .i64 (slotOf S f 3)) ∧ w.cell? ⟨bf, f * 11 + 7, none⟩ = some (.int .i64 (slotOf S f 4)) ∧ w.cell? ⟨bf, f * 11 + 8, none⟩ = some (.int .i64 (slotOf S f 5)) ∧
    w.cell? ⟨bf, f * 11 + 9, none⟩ = some (.int .i64 (slotOf S f 6)) ∧ w.cell? ⟨bf, f * 11 + 10, none⟩ = some (.int .i64 (slotOf S f 7)) := by
  obtain ⟨c, h1, _, h3⟩ := h.fr
  obtain ⟨a, b, d, e⟩ := h3 f hf
  simp only [cell_of h1]
  exact ⟨a, b, d, e 0 (by omega), e 1 (by omega), e 2 (by omega), e 3 (by omega), e 4 (by omega), e 5 (by omega), e 6 (by omega), e 7 (by omega)⟩

/-- the superblocks of a heap and class among the first k frames -/
def mineTo (S : Ti.St) (h c : Int) : Nat → List Nat
  | 0 => []
  | k + 1 => if S.mine h c k = true then mineTo S h c k ++ [k] else mineTo S h c k
theorem mineTo_len (S : Ti.St) (h c : Int) (k : Nat) : (mineTo S h c k).length ≤ k := by
  induction k with
  | zero => simp [mineTo]
  | succ k ih =>
    simp only [mineTo]
    split
    · simp; omega
    · omega

/-- such a superblock -/
abbrev Mi (S : Ti.St) (h c : Int) : Type := { i : Nat // i < S.sups.length ∧ S.mine h c i = true }
def mines (S : Ti.St) (h c : Int) : Nat → List (Mi S h c)
  | 0 => []
  | k + 1 => if hm : k < S.sups.length ∧ S.mine h c k = true then mines S h c k ++ [⟨k, hm⟩] else mines S h c k
theorem mines_map (S : Ti.St) (h c : Int) (k : Nat) (hk : k ≤ S.sups.length) : (mines S h c k).map (·.1) = mineTo S h c k := by
  induction k with
  | zero => rfl
  | succ k ih =>
    have h1 := ih (by omega)
    simp only [mines, mineTo]
    by_cases hm : S.mine h c k = true
    · rw [dif_pos ⟨by omega, hm⟩, if_pos hm, List.map_append, h1]; rfl
    · rw [dif_neg (fun x => hm x.2), if_neg hm, h1]
theorem mines_len (S : Ti.St) (h c : Int) (k : Nat) : (mines S h c k).length ≤ k := by
  induction k with
  | zero => simp [mines]
  | succ k ih =>
    simp only [mines]
    split
    · rw [List.length_append]; exact Nat.add_le_add_right ih 1
    · omega

theorem ours_eq (S : Ti.St) (h c : Int) (f : Nat) : ((pk S f == 1) && (ph S f == h) && (pc S f == c)) = S.mine h c f := by
  unfold pk ph pc Ti.St.mine
  cases hs : (S.sup f).is
  · simp
    intro h; split at h <;> simp at h
  · simp

set_option maxRecDepth 100000 in
set_option maxHeartbeats 2000000 in
theorem superblocks1_in (F : Fence) (n : Nat) (hF : F.fn 74) (hro : F.round = none) (hn : 1 ≤ n) (l : Nat) (K : Nat → Prop) (m bf bz bm bh bc : Nat) (S : Ti.St) (h c : Int) (h16 : S.sups.length ≤ 16) (J Jx : List (Mi S h c) → World → Prop) (W : World)
    (hJ : AbidesFrom W.heap.size J)
    (hY : ∀ (pre : List (Mi S h c)) (x : Mi S h c) W1, J pre W1 → pre.length < S.sups.length → YieldAt F (n - 1) Tryd.prog l #[.int .i64 (x.1 : Int)] W1 fun e W' =>
      (e = .returned (.bool true) ∧ J (pre ++ [x]) W' ∧ Stay K W1 W') ∨ (e = .returned (.bool false) ∧ Jx (pre ++ [x]) W'))
    (k1 : K bm) (k2 : K bh) (k3 : K bc) (k4 : K m) (k5 : K bf) (k6 : K bz)
    (hbm : W.heap[bm]? = some (.cells #[.pointer (some ⟨m, 0, none⟩)] 69 (0, 0))) (hbh : W.heap[bh]? = some (.cells #[.int .i64 h] 3 (0, 0))) (hbc : W.heap[bc]? = some (.cells #[.int .i64 c] 3 (0, 0)))
    (hP : PrAt W m bf bz S) (h0 : J [] W) :
    CallsIn F n Tryd.prog 74 #[.func (.yield l) #[] #[], .pointer (some ⟨bm, 0, none⟩), .pointer (some ⟨bh, 0, none⟩), .pointer (some ⟨bc, 0, none⟩)] W fun e W' => (∃ v, e = .returned v) ∧
      ((∃ ys, ys = mines S h c S.sups.length ∧ J ys W') ∨ (∃ pre, (∃ k, k ≤ S.sups.length ∧ pre = mines S h c k) ∧ Jx pre W')) := by
  refine callsIn_of_wp Tryd.func74 rfl hF ?_ hro
  simp only [Tryd.ntmps74, List.size_toArray, List.length_cons, List.length_nil, Nat.reduceAdd, Nat.reduceSub, Array.replicate_succ, Array.replicate_zero, List.push_toArray, List.append_toArray, List.nil_append, List.cons_append]
  have x1 : W.cell? ⟨bm, 0, none⟩ = some (.pointer (some ⟨m, 0, none⟩)) := by rw [cell_of hbm]; rfl
  have x2 := hP.c2
  gi_wp2
  gi_loopw [5, 6, 7, 13] (fun _ _ _ i wr => ∃ k : Nat, k ≤ S.sups.length ∧ i = .int .i64 k ∧ J (mines S h c k) wr ∧ Stay K W wr)
    (fun _ _ _ i _ => S.sups.length - (intOf i).toNat)
  case atStart => exact ⟨0, Nat.zero_le _, rfl, h0, Stay.refl _ _⟩
  case round =>
    clear x1 x2
    obtain ⟨k, hk, rfl, hJs, hst⟩ := hrel
    have hPr := hP.stay hst k4 k5 k6
    have t1 := hst bm _ k1 hbm
    have t2 := hst bh _ k2 hbh
    have t3 := hst bc _ k3 hbc
    have y1 : wr.cell? ⟨bm, 0, none⟩ = some (.pointer (some ⟨m, 0, none⟩)) := by rw [cell_of t1]; rfl
    have y2 : wr.cell? ⟨bh, 0, none⟩ = some (.int .i64 h) := by rw [cell_of t2]; rfl
    have y3 : wr.cell? ⟨bc, 0, none⟩ = some (.int .i64 c) := by rw [cell_of t3]; rfl
    have y4 := hPr.c2
    have z1 := lt_of_heap t1
    have z2 := lt_of_heap t2
    have z3 := lt_of_heap t3
    have z4 := lt_of_heap hPr.hd
    clear t1 t2 t3
    by_cases hlt : k < S.sups.length
    · obtain ⟨q0, q1, q2, q3, q4, q5, q6, q7, q8, q9, q10⟩ := hPr.fc k hlt
      have Hou : Hid (((pk S k == 1) && (ph S k == h) && (pc S k == c)) = S.mine h c k) := ours_eq S h c k
      have Hmt : Hid (mines S h c (k + 1) = if hm : k < S.sups.length ∧ S.mine h c k = true then mines S h c k ++ [⟨k, hm⟩] else mines S h c k) := rfl
      have hJal : ∀ o, J (mines S h c k) (wr.alloc o) := fun o => hJ _ _ _ none hJs (World.grownBy_alloc wr o none) (fun r e => by cases e)
      have hlen := mines_len S h c k
      cases hm : S.mine h c k
      · have Hmt' : Hid (mines S h c (k + 1) = mines S h c k) := by show _ = _; rw [Hmt.out, dif_neg (fun x => by have := x.2; rw [hm] at this; cases this)]
        have Hou' : Hid (((pk S k == 1) && (ph S k == h) && (pc S k == c)) = false) := by show _ = _; rw [Hou.out, hm]
        have hre : Hid (∀ o, (∃ j : Nat, j ≤ S.sups.length ∧ Value.int IntKind.i64 (↑k + 1) = .int .i64 j ∧ J (mines S h c j) (wr.alloc o) ∧ Stay K W (wr.alloc o))) := fun o => ⟨k + 1, by omega, by go_num, by rw [Hmt'.out]; exact hJal o, hst.alloc o⟩
        clear Hmt Hmt' Hou hm hJal hY hJ
        generalize pk S k = a0 at *
        generalize ph S k = a1 at *
        generalize pc S k = a2 at *
        cases b0 : (a0 == 1)
        · gi_wp2
          refine ⟨fun _ h => (by cases h), ?_⟩
          gi_wp2
          go_roundw
          case rel => exact hre.out _
          case measure => simp [intOf]; omega
        · cases b1 : (a1 == h)
          · gi_wp2
            refine ⟨fun _ h => (by cases h), ?_⟩
            gi_wp2
            go_roundw
            case rel => exact hre.out _
            case measure => simp [intOf]; omega
          · have b2 : (a2 == c) = false := by have := Hou'.out; rw [b0, b1] at this; simpa using this
            gi_wp2
            refine ⟨fun _ h => (by cases h), ?_⟩
            gi_wp2
            go_roundw
            case rel => exact hre.out _
            case measure => simp [intOf]; omega
      · have Hmt' : Hid (mines S h c (k + 1) = mines S h c k ++ [⟨k, hlt, hm⟩]) := by show _ = _; rw [Hmt.out, dif_pos ⟨hlt, hm⟩]
        have Hou' := Hou.out
        rw [hm] at Hou'
        simp only [Bool.and_eq_true] at Hou'
        obtain ⟨⟨b0, b1⟩, b2⟩ := Hou'
        obtain ⟨fn, tmps, assign, body, hy, hR⟩ := hY _ ⟨k, hlt, hm⟩ _ (hJal (.cells #[.int .i64 (pk S k), .int .i64 (ph S k), .int .i64 (pc S k), .int .i64 (slotOf S k 0), .int .i64 (slotOf S k 1), .int .i64 (slotOf S k 2), .int .i64 (slotOf S k 3), .int .i64 (slotOf S k 4), .int .i64 (slotOf S k 5), .int .i64 (slotOf S k 6), .int .i64 (slotOf S k 7)] 100)) (by omega)
        have hsta : Hid (∀ o, Stay K W (wr.alloc o)) := fun o => hst.alloc o
        clear Hmt Hou hJal hY hJ
        dsimp only at hy
        gi_wp2
        refine hR.mono ?_
        rintro e W3 (⟨rfl, hJ3, hk3⟩ | ⟨rfl, hJx3⟩)
        · gi_wp2
          go_roundw
          case rel => exact ⟨k + 1, by omega, by go_num, by rw [Hmt'.out]; exact hJ3, (hsta.out _).trans hk3⟩
          case measure => simp [intOf]; omega
        · gi_wp2
          refine bodyPost_ret (results_none rfl _ _ _) rfl ?_
          exact ⟨⟨_, rfl⟩, .inr ⟨_, ⟨k + 1, by omega, Hmt'.out.symm⟩, hJx3⟩⟩
    · obtain rfl : k = S.sups.length := by omega
      gi_wp2
      go_end0
      exact ⟨⟨_, rfl⟩, .inl ⟨_, rfl, hJs⟩⟩
end Go.Proofs.YtbagfepdmmfegaaDoor

namespace Go.Proofs.YtbagfepdmmfegaaDoor
open Go.RowKit Go.Shelf
attribute [local go_sem] Oper.semAt_some

theorem superblocks_in (F : Fence) (n : Nat) (hF : F.fn 49) (hro : F.round = none) (m : Nat) (h c : Int) (w : World) :
    CallsIn F n Tryd.prog 49 #[.pointer (some ⟨m, 0, none⟩), .int .i64 h, .int .i64 c] w fun e w' =>
      e = .returned (.func (.func 74) #[] #[.pointer (some ⟨w.heap.size, 0, none⟩), .pointer (some ⟨w.heap.size + 1, 0, none⟩), .pointer (some ⟨w.heap.size + 2, 0, none⟩)]) ∧
      w' = ((w.alloc (.cells #[.pointer (some ⟨m, 0, none⟩)] 69)).alloc (.cells #[.int .i64 h] 3)).alloc (.cells #[.int .i64 c] 3) := by
  refine callsIn_of_wp Tryd.func49 rfl hF ?_ hro
  simp only [Tryd.ntmps49, List.size_toArray, List.length_cons, List.length_nil, Nat.reduceAdd, Nat.reduceSub, Array.replicate_succ, Array.replicate_zero, List.push_toArray, List.append_toArray, List.nil_append, List.cons_append]
  gi_wp2
  go_ret
  exact ⟨rfl, rfl⟩

/-- three blocks more -/
theorem heap3 (w : World) (a b c : Obj) : (((w.alloc a).alloc b).alloc c).heap[w.heap.size]? = some a ∧ (((w.alloc a).alloc b).alloc c).heap[w.heap.size + 1]? = some b ∧ (((w.alloc a).alloc b).alloc c).heap[w.heap.size + 2]? = some c := by
  refine ⟨?_, ?_, ?_⟩
  · show (((w.heap.push a).push b).push c)[_]? = _
    simp [Array.getElem?_push, Array.getElem_push] <;> omega
  · show (((w.heap.push a).push b).push c)[_]? = _
    simp [Array.getElem?_push, Array.getElem_push] <;> omega
  · show (((w.heap.push a).push b).push c)[_]? = _
    simp [Array.getElem?_push, Array.getElem_push] <;> omega

theorem superblocks_J (F : Fence) (n : Nat) (hF : F.fn 74) (hro : F.round = none) (hn : 1 ≤ n) (X : Nat → Prop) (m bf bz bm bh bc : Nat) (S : Ti.St) (h c : Int) (h16 : S.sups.length ≤ 16) (w : World)
    (k1 : ¬ X bm) (k2 : ¬ X bh) (k3 : ¬ X bc) (k4 : ¬ X m) (k5 : ¬ X bf) (k6 : ¬ X bz)
    (hbm : w.heap[bm]? = some (.cells #[.pointer (some ⟨m, 0, none⟩)] 69 (0, 0))) (hbh : w.heap[bh]? = some (.cells #[.int .i64 h] 3 (0, 0))) (hbc : w.heap[bc]? = some (.cells #[.int .i64 c] 3 (0, 0)))
    (hP : PrAt w m bf bz S) :
    SeqJ F n Tryd.prog 74 #[.pointer (some ⟨bm, 0, none⟩), .pointer (some ⟨bh, 0, none⟩), .pointer (some ⟨bc, 0, none⟩)] (fun x : Mi S h c => #[Value.int .i64 (x.1 : Int)]) (fun pre _ => pre.length < S.sups.length) (fun l => Stay (but X l)) (fun _ _ => True) (fun ys => ys = mines S h c S.sups.length)
      (fun pre => ∃ k, k ≤ S.sups.length ∧ pre = mines S h c k) w := by
  obtain ⟨_, hfl, _⟩ := hP.fr
  obtain ⟨_, hzl, _⟩ := hP.bytes
  refine SeqJ.of_stops (K := fun k => k = bm ∨ k = bh ∨ k = bc ∨ k = m ∨ k = bf ∨ k = bz) ?_ ?_
  · rintro k (rfl | rfl | rfl | rfl | rfl | rfl)
    · exact ⟨lt_of_heap hbm, k1⟩
    · exact ⟨lt_of_heap hbh, k2⟩
    · exact ⟨lt_of_heap hbc, k3⟩
    · exact ⟨lt_of_heap hP.hd, k4⟩
    · exact ⟨lt_of_heap hfl, k5⟩
    · exact ⟨lt_of_heap hzl, k6⟩
  · intro l J Jx W hW hJ _ hY h0
    have hS : ∀ K, Stay K w W := fun K k o _ ho => (hW.block k (lt_of_heap ho)).trans ho
    have hS' := hS (fun _ => True)
    exact superblocks1_in F n hF hro hn l _ m bf bz bm bh bc S h c h16 J Jx W hJ hY (.inl rfl) (.inr (.inl rfl)) (.inr (.inr (.inl rfl))) (.inr (.inr (.inr (.inl rfl)))) (.inr (.inr (.inr (.inr (.inl rfl))))) (.inr (.inr (.inr (.inr (.inr rfl))))) (hS' _ _ trivial hbm) (hS' _ _ trivial hbh) (hS' _ _ trivial hbc) (hP.stay hS' trivial trivial trivial) h0

theorem held_len (S : Ti.St) (h c : Int) (n : Nat) : S.heldTo h c n = 64 * ((mineTo S h c n).length : Nat) := by
  induction n with
  | zero => rfl
  | succ n ih =>
    simp only [Ti.St.heldTo, mineTo]
    split
    · rw [ih]; simp; omega
    · exact ih

/-- a block of one cell, kept by what the loop's machinery does -/
theorem ownFrom_block {β : Type} {B b : Nat} (hb : b < B) (f : β → Obj) : OwnFrom B (fun s W => W.heap[b]? = some (f s)) := fun s W W' row hs hg hr =>
  (hg.block b (lt_of_heap hs) (fun e => by have := (hr b e.symm).1; omega)).trans hs

end Go.Proofs.YtbagfepdmmfegaaDoor
