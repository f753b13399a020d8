import Derived.Test.YtbagfepdmmfegaaDoorK14
import Derived.RangeFuncBox
import Derived.Deep.AppendLies
import Derived.Test.YtbagfepdmmfegaaDoorK18
set_option linter.unusedVariables false
set_option linter.unusedSimpArgs false
/- WHAT THE BLOCKS' ITERATOR TELLS, collected into a row. -/
namespace Go.Proofs.YtbagfepdmmfegaaDoor
open Go.RowKit Go.Shelf
attribute [local go_sem] Oper.semAt_some

def encBk (l : List (Int × Int)) : List Value := l.flatMap fun b => [.int .i64 b.1, .int .i64 b.2]
theorem encBk_append (a b : List (Int × Int)) : encBk (a ++ b) = encBk a ++ encBk b := by simp [encBk]
theorem infoBk : (Tryd.prog.info? 102).map (fun i => (i.zero, i.size, i.bytes)) = some (some (.agg #[.int .i64 0, .int .i64 0]), 2, 16) := by kernel_rfl

theorem appended_stay {W w1 : World} {base : Nat} {v u : Value} {k : Nat} {xs : List Value} {tmp : Obj} {B l : Nat} (hrow : W.ownsRow base 102 2 v k xs) (hgrow : (W.alloc tmp).grownBy w1 v.ownBlock) :
    StayO (one B) l W (w1.setCell ⟨B, 0, none⟩ u) := by
  have hg2 := grownBy_setCell' w1 B u
  refine ⟨fun j o hj hn ho => ?_, ?_⟩
  · have ha : (W.alloc tmp).heap[j]? = some o := (Below.heap_alloc _ _ _ (lt_of_heap ho)).trans ho
    have h1 : w1.heap[j]? = some o := (hgrow.block j (lt_of_heap ha) (fun e => by
      rcases hrow.2 with ⟨rfl, _⟩ | ⟨g, cap, cur, rfl, _, hgb, _⟩
      · simp [Value.ownBlock] at e
      · have e : j = g := by simpa [Value.ownBlock] using e
        subst e
        rw [ho] at hgb
        exact hn ⟨_, _, Option.some.inj hgb⟩)).trans ha
    exact (hg2.block j (lt_of_heap h1) (fun e => hj.1 (by simpa [one] using e))).trans h1
  · have := hgrow.size
    have := hg2.size
    simp at *
    omega

set_option maxRecDepth 100000 in
set_option maxHeartbeats 4000000 in
theorem appendSeq_in (n : Nat) (hn : 7 ≤ n) (w : World) (m bf bz bm : Nat) (S : Ti.St) (hP : PrAt w m bf bz S) (hI : Ti.Inv0 S)
    (hbm : w.heap[bm]? = some (.cells #[.pointer (some ⟨m, 0, none⟩)] 69 (0, 0))) :
    CallsIn Fence.wide n Tryd.prog 81 #[.slice none 0 0, .func (.func 82) #[] #[.pointer (some ⟨bm, 0, none⟩)]] w fun e w' =>
      ∃ v, e = .returned v ∧ w'.ownsRow w.heap.size 102 2 v S.blocks.length (encBk S.blocks) ∧ Ext none1 w w' := by
  have h1 : 1 ≤ n := by omega
  obtain ⟨i0, hi, hi0, hi1, hi2⟩ := info_parts infoBk
  refine callsIn_of_wp_marks Tryd.func81 rfl trivial ?_ rfl
  simp only [Tryd.ntmps81, List.size_toArray, List.length_cons, List.length_nil, Nat.reduceAdd, Nat.reduceSub, Array.replicate_succ, Array.replicate_zero, List.push_toArray, List.append_toArray, List.nil_append, List.cons_append]
  gi_wp2_with fail
  have hb0 : Boxed (w.alloc (.cells #[.slice none 0 0] 108)) w.heap.size 108 (.slice none 0 0) := Boxed.new _ _ _
  have hE1 : Ext none1 w (w.alloc (.cells #[.slice none 0 0] 108)) := (Ext.refl _ _).alloc _
  have hs1 : (w.alloc (.cells #[.slice none 0 0] 108)).heap.size = w.heap.size + 1 := by simp
  generalize (w.alloc (.cells #[.slice none 0 0] 108)) = w1 at *
  have hml := lt_of_heap hP.hd
  have hbl := lt_of_heap hbm
  obtain ⟨_, u5, _⟩ := hP.fr
  have u5 := lt_of_heap u5
  obtain ⟨_, u6, _⟩ := hP.bytes
  have u6 := lt_of_heap u6
  refine range_JA (hro := rfl) h1 (gf := 82) (lb := #[.pointer (some ⟨bm, 0, none⟩)]) rfl trivial (enters_of Tryd.func82 (by kernel_rfl) rfl)
    (blocks_J (n - 1) (by omega) (one w.heap.size) m bf bz bm S hI w1 (fun k h => by have : k = w.heap.size := h; omega) (fun h => by have : bm = w.heap.size := h; omega) (fun h => by have : m = w.heap.size := h; omega) (fun h => by have : bf = w.heap.size := h; omega) (fun h => by have : bz = w.heap.size := h; omega) (hE1.keep hbm (fun x => x)) (hP.keep0 hE1))
    (fun a b => a.trans b) (fun W l o _ => stayO_put _ W l o) (fun _ => rfl)
    (fun pre U => (∃ v, Boxed U w.heap.size 108 v ∧ U.ownsRow w.heap.size 102 2 v pre.length (encBk (pre.map (·.1))) ∧ True) ∧ Below w.heap.size w U)
    (fun _ _ _ => False)
    (OwnFrom.and (fun s W W' row hs hg hr => holdsRow_own w.heap.size w.heap.size 108 102 2 (fun pre : List (Bk S) => pre.length) (fun pre => encBk (pre.map (·.1))) (fun _ _ => True) s W W' row hs hg (fun r e => (hr r e).2)) (ownFrom_below (Nat.le_refl _) (by omega)))
    (fun _ _ _ _ _ h _ _ => h)
    (fun _ _ _ => trivial) ⟨⟨_, hb0, ⟨by simp [encBk], .inl ⟨rfl, rfl⟩⟩, trivial⟩, hE1.below⟩ (fun x => .cells #[.int .i64 x.1.1, .int .i64 x.1.2] 102) (fun W l o => stayO_alloc _ l W o)
    (fun x b => { tmps := #[.slice none 0 0, .func (.func 82) #[] #[.pointer (some ⟨bm, 0, none⟩)], .pointer (some ⟨w.heap.size, 0, none⟩), undef, .slice none 0 0, .pointer (some ⟨b, 0, none⟩), .func (.func 82) #[] #[.pointer (some ⟨bm, 0, none⟩)], .agg #[.int .i64 x.1.1, .int .i64 x.1.2], undef, undef, undef, undef, undef], defers := [] }) ?assign ?body ?done ?stop
  case assign =>
    intro l' x U K hK
    gi_wp2
    simpa using hK
  case body =>
    rintro l' pre x U b hll hlb hob ⟨⟨v, hv, hrow, _⟩, hB⟩ hp
    have hp : pre.length < 128 := hp
    have y3 := hv.cell
    have y4 := cell_of hob 0
    have y5 := cell_of hob 1
    simp at y4 y5
    have hd1 : 1 ≤ n - 1 - 1 := by omega
    gi_wp2_with (gi_at_builtin; refine wpListIn_append_own _ rfl _ _ 108 rfl w.heap.size 102 i0 _ 2 16 Tryd.underlying108 hi hi0 hi1 hi2 rfl (by decide) _ _ _ rfl (hrow.alloc _) ⟨U.heap.size, 0, none⟩ 1 1 [.int .i64 x.1.1, .int .i64 x.1.2] rfl rfl (World.news_of_block (heap_alloc_new _ _)) (by simp [Value.oneCell']) (by unfold maxLen; omega) (by omega) (by have := hB.size; simp; omega) ?_; intro v' w2 hown' hgrow _; obtain ⟨g', cap', rfl⟩ := ownsRow_succ hown'; obtain ⟨hv1, hv2, hr2, hk2, hb2⟩ := hv.appended (by decide) hrow hB.size (Nat.le_refl _) hown' hgrow; have hst := appended_stay (B := w.heap.size) (l := l') (u := .slice (some ⟨g', 0, none⟩) (pre.length + 1) cap') hrow hgrow; have hc1 := hv1.cell; have hf1 := hv1.frozen)
    refine ⟨hk2.from _, hst, ⟨_, hv2, ?_, trivial⟩, hB.trans hb2⟩
    rw [List.map_append, encBk_append, List.length_append]
    exact hr2
  case done =>
    rintro D ys U hD rfl ⟨⟨v, hv, hrow, _⟩, hB⟩ hKd
    have y3 := hv.cell
    have hl := congrArg List.length (told_all S hI)
    rw [List.length_map] at hl
    rw [told_all S hI, hl] at hrow
    gi_wp2
    refine ⟨by simp, .inl ⟨_, _, rfl, run_takeDeferred hKd, ?_⟩⟩
    refine ⟨_, results_tmp rfl _ _ _, v, rfl, ownsRow_putObj hrow _ hKd rfl, ?_⟩
    exact Ext.of_below (hB.trans (belowK_b (w := w) (Nat.le_refl _) _ D _ _ (by omega) hKd rfl rfl))
  case stop =>
    rintro D c pre W _ _ h _
    exact h.elim
end Go.Proofs.YtbagfepdmmfegaaDoor

/- Live: what is told is copied when a ranging begins. -/
namespace Go.Proofs.YtbagfepdmmfegaaDoor
open Go.RowKit Go.Shelf
attribute [local go_sem] Oper.semAt_some

set_option maxRecDepth 100000 in
set_option maxHeartbeats 4000000 in
theorem collect_in (n : Nat) (hn : 8 ≤ n) (w : World) (m bf bz bm : Nat) (S : Ti.St) (hP : PrAt w m bf bz S) (hI : Ti.Inv0 S)
    (hbm : w.heap[bm]? = some (.cells #[.pointer (some ⟨m, 0, none⟩)] 69 (0, 0))) :
    CallsIn Fence.wide n Tryd.prog 62 #[.func (.func 82) #[] #[.pointer (some ⟨bm, 0, none⟩)]] w fun e w' =>
      ∃ v, e = .returned v ∧ w'.ownsRow w.heap.size 102 2 v S.blocks.length (encBk S.blocks) ∧ Ext none1 w w' := by
  have h1 : 1 ≤ n := by omega
  refine callsIn_of_wp Tryd.func62 rfl trivial ?_ rfl
  simp only [Tryd.ntmps62, List.size_toArray, List.length_cons, List.length_nil, Nat.reduceAdd, Nat.reduceSub, Array.replicate_succ, Array.replicate_zero, List.push_toArray, List.append_toArray, List.nil_append, List.cons_append]
  gi_wp2_with fail
  refine ⟨trivial, (appendSeq_in (n - 1) (by omega) w m bf bz bm S hP hI hbm).mono ?_⟩
  rintro e w' ⟨v, rfl, h2, h3⟩
  gi_wp2_with fail
  refine bodyPost_ret (results_tmp rfl _ _ _) rfl ?_
  exact ⟨v, rfl, h2, h3⟩

theorem blocks_few (S : Ti.St) (hI : Ti.Inv0 S) : S.blocks.length ≤ 128 := by
  have h := congrArg List.length (told_all S hI)
  have := told_len S S.sups.length
  have := hI.f16
  rw [List.length_map] at h
  omega
theorem encBk_len (l : List (Int × Int)) : (encBk l).length = l.length * 2 := by
  induction l with
  | nil => rfl
  | cons x r ih => simp only [encBk, List.flatMap_cons, List.length_append, List.length_cons, List.length_nil] at ih ⊢; omega
theorem encBk_get (l : List (Int × Int)) (k : Nat) (x : Int × Int) (h : l[k]? = some x) : (encBk l)[k * 2]? = some (.int .i64 x.1) ∧ (encBk l)[k * 2 + 1]? = some (.int .i64 x.2) := by
  induction l generalizing k with
  | nil => cases h
  | cons y r ih =>
    have e : encBk (y :: r) = [.int .i64 y.1, .int .i64 y.2] ++ encBk r := by simp [encBk]
    cases k with
    | zero =>
      obtain rfl : y = x := by simpa using h
      rw [e]; exact ⟨rfl, rfl⟩
    | succ k =>
      have := ih k (by simpa using h)
      rw [e, show (k + 1) * 2 = 2 + k * 2 by omega]
      refine ⟨?_, ?_⟩
      · rw [List.getElem?_append_right (by simp)]; simpa using this.1
      · rw [List.getElem?_append_right (by simp; omega), show 2 + k * 2 + 1 - [Value.int .i64 y.1, .int .i64 y.2].length = k * 2 + 1 by simp; omega]; exact this.2
/-- the cells of a row of blocks -/
theorem row_cells {W : World} {base : Nat} {v : Value} {l : List (Int × Int)} (h : W.ownsRow base 102 2 v l.length (encBk l)) :
    ∃ p cap, v = .slice p l.length cap ∧ (0 < l.length → ∃ g cur, p = some ⟨g, 0, none⟩ ∧ base ≤ g ∧ W.heap[g]? = some (.cells cur 102 (0, 0)) ∧ ∀ k x, l[k]? = some x → cur[k * 2]? = some (.int .i64 x.1) ∧ cur[k * 2 + 1]? = some (.int .i64 x.2)) := by
  obtain ⟨hl, ⟨rfl, hz⟩ | ⟨g, cap, cur, rfl, hgb, hgh, hcap, hmx, hsz, htk⟩⟩ := h
  · exact ⟨none, 0, by rw [hz], fun h => by omega⟩
  · refine ⟨_, cap, rfl, fun _ => ⟨g, cur, rfl, hgb, hgh, fun k x hx => ?_⟩⟩
    have hc : ∀ j u, (encBk l)[j]? = some u → cur[j]? = some u := fun j u hu => by
      rw [← htk, List.getElem?_take] at hu
      split at hu
      · simpa using hu
      · cases hu
    exact ⟨hc _ _ (encBk_get l k x hx).1, hc _ _ (encBk_get l k x hx).2⟩

set_option maxRecDepth 100000 in
set_option maxHeartbeats 4000000 in
theorem live_J (n : Nat) (hn : 10 ≤ n) (X : Nat → Prop) (m bf bz bm : Nat) (S : Ti.St) (hI : Ti.Inv0 S) (w : World) (hX : ∀ k, X k → k < w.heap.size)
    (hbm : w.heap[bm]? = some (.cells #[.pointer (some ⟨m, 0, none⟩)] 69 (0, 0))) (hP : PrAt w m bf bz S) :
    SeqJ Fence.wide n Tryd.prog 61 #[.pointer (some ⟨bm, 0, none⟩)] (fun x : Int × Int => #[.int .i64 x.1, .int .i64 x.2]) (fun pre x => pre ++ [x] <+: S.blocks) (fun l => Stay (but X l)) (fun _ _ => True)
      (fun ys => ys = S.blocks) (fun _ => True) w := by
  intro l J Jx W hl hlW hW hJ hJx _ hY h0
  have h1 : 1 ≤ n := by omega
  have hEW0 : Ext none1 w W := Ext.of_below hW
  have hws := hW.size
  have hbm' := hEW0.keep hbm (fun x => x)
  have hP' := hP.keep0 hEW0
  have z1 := lt_of_heap hbm'
  have x1 : W.cell? ⟨bm, 0, none⟩ = some (.pointer (some ⟨m, 0, none⟩)) := by rw [cell_of hbm']; rfl
  clear hbm hP hW hEW0 hbm'
  refine callsIn_of_wp Tryd.func61 rfl trivial ?_ rfl
  simp only [Tryd.ntmps61, List.size_toArray, List.length_cons, List.length_nil, Nat.reduceAdd, Nat.reduceSub, Array.replicate_succ, Array.replicate_zero, List.push_toArray, List.append_toArray, List.nil_append, List.cons_append]
  gi_wp2_with fail
  refine ⟨trivial, Wide.wide.calls ((blocksMk_any _ _).mono ?_)⟩
  rintro e w' ⟨rfl, rfl⟩
  have hE1 : Ext none1 W (W.alloc (.cells #[.pointer (some ⟨m, 0, none⟩)] 69)) := (Ext.refl _ _).alloc _
  have hb1 := heap_alloc_new W (.cells #[.pointer (some ⟨m, 0, none⟩)] 69)
  have hs1 : (W.alloc (.cells #[.pointer (some ⟨m, 0, none⟩)] 69)).heap.size = W.heap.size + 1 := by simp
  generalize (W.alloc (.cells #[.pointer (some ⟨m, 0, none⟩)] 69)) = w1 at *
  have Hc : Hid _ := collect_in (n - 1) (by omega) w1 m bf bz W.heap.size S (hP'.keep0 hE1) hI hb1
  clear hb1 hP'
  gi_wp2_with fail
  refine ⟨trivial, CallsIn.mono Hc.out ?_⟩
  rintro e w2 ⟨v, rfl, hrow, hE2⟩
  have hJ2 : J [] w2 := own_ext hJ h0 (hE1.trans hE2)
  have hs2 := hE2.size
  clear hE1 hE2 Hc h0 x1
  have hlen := blocks_few S hI
  obtain ⟨p, cap, rfl, hcells⟩ := row_cells hrow
  clear hrow
  gi_wp2_with fail
  gi_loopw [4, 9] (fun _ c wr => ∃ k : Nat, k ≤ S.blocks.length ∧ c = .int .i64 k ∧ J (S.blocks.take k) wr ∧ Stay (but X l) w2 wr)
    (fun _ c _ => S.blocks.length - (intOf c).toNat)
  case atStart => exact ⟨0, by omega, rfl, hJ2, Stay.refl _ _⟩
  case round =>
    obtain ⟨k, hk, rfl, hJs, hst⟩ := hrel
    by_cases hlt : k < S.blocks.length
    · have hlt' : (k : Int) < (S.blocks.length : Int) := by omega
      obtain ⟨g, cur, rfl, hgb, hgh, hcc⟩ := hcells (by omega)
      obtain ⟨x, hx⟩ : ∃ x, S.blocks[k]? = some x := ⟨_, List.getElem?_eq_getElem hlt⟩
      have hg := hst g _ ⟨fun hx => (by have := hX _ hx; omega), by omega⟩ hgh
      have y1 : wr.cell? ⟨g, k * 2, none⟩ = some (.int .i64 x.1) := by rw [cell_of hg]; exact (hcc k x hx).1
      have y2 : wr.cell? ⟨g, k * 2 + 1, none⟩ = some (.int .i64 x.2) := by rw [cell_of hg]; exact (hcc k x hx).2
      have Htk : Hid (S.blocks.take (k + 1) = S.blocks.take k ++ [x]) := by show _ = _; rw [List.take_add_one, hx]; rfl
      have hEa : Ext none1 wr (wr.alloc (.cells #[.int .i64 x.1, .int .i64 x.2] 102)) := (Ext.refl _ _).alloc _
      have hJa := own_ext hJ hJs hEa
      obtain ⟨fn, tmps, assign, body, hy, hR⟩ := hY _ x _ hJa (by rw [← Htk.out]; exact List.take_prefix _ _)
      clear hY hcc hcells hJa
      gi_wp2
      refine hR.mono ?_
      rintro e W3 (⟨rfl, hJ3, hk3⟩ | ⟨rfl, hJx3, _⟩)
      · gi_wp2
        go_roundw
        case rel => exact ⟨k + 1, by omega, by go_num, by rw [Htk.out]; exact hJ3, (hst.trans (Stay.of_ext hEa (fun _ _ x => x))).trans hk3⟩
        case measure => simp [intOf]; omega
      · gi_wp2
        refine bodyPost_ret (results_none rfl _ _ _) rfl ?_
        exact ⟨⟨_, rfl⟩, .inr ⟨_, trivial, hJx3⟩⟩
    · obtain rfl : k = S.blocks.length := by omega
      rw [List.take_length] at hJs
      gi_wp2
      go_end0
      exact ⟨⟨_, rfl⟩, .inl ⟨_, rfl, hJs⟩⟩

/-! ### the makers -/
theorem liveMk_any (m : Nat) (w : World) :
    Calls Tryd.prog 43 #[.pointer (some ⟨m, 0, none⟩)] w fun e w' =>
      e = .returned (.func (.func 61) #[] #[.pointer (some ⟨w.heap.size, 0, none⟩)]) ∧ w' = w.alloc (.cells #[.pointer (some ⟨m, 0, none⟩)] 69) := by
  go_enter Tryd.func43, Tryd.ntmps43
  go_wp2
  go_ret
  exact ⟨rfl, rfl⟩
end Go.Proofs.YtbagfepdmmfegaaDoor

/- Live, for one who ranges over what a tithe tells. -/
namespace Go.Proofs.YtbagfepdmmfegaaDoor
open Go.RowKit Go.Shelf

theorem fun_not_nil : ∀ (lb : Array Value) (w : World), Sem.run Tryd.prog (binOp BinOp.eql 56 (Value.func (Fn.func 61) #[] lb) Value.nilFunc) w = .ok (.bool false) w := fun lb w => by
  have h := Tryd.underlying56
  obtain ⟨d, hd⟩ : ∃ d, Op.maxDepth = d + 1 := ⟨9999, rfl⟩
  have he : Sem.run Tryd.prog (Op.equal 56 (Value.func (Fn.func 61) #[] lb) Value.nilFunc) w = .ok false w := by
    unfold Op.equal
    rw [hd]
    simp only [Op.equalIn, Sem.run_bind, run_underlying h, Result.andThen_ok]
    rfl
  simp only [binOp, Sem.run_bind, he, Result.andThen_ok]
  rfl
theorem live_any (w : World) (t m bf bz : Nat) (S : Ti.St) (h : TiAt w t m bf bz S) :
    Calls Tryd.prog 25 #[.pointer (some ⟨t, 0, none⟩)] w fun e w' =>
      e = .returned (.func (.func 61) #[] #[.pointer (some ⟨w.heap.size, 0, none⟩)]) ∧ w' = w.alloc (.cells #[.pointer (some ⟨m, 0, none⟩)] 69) := by
  have H : Hid _ := inside_any w t m bf bz S h
  go_enter Tryd.func25, Tryd.ntmps25
  go_wp2_with fail
  refine Calls.mono H.out ?_
  rintro e w' ⟨rfl, rfl⟩
  go_wp2_with fail
  refine (liveMk_any _ _).mono ?_
  rintro e w' ⟨rfl, rfl⟩
  go_wp2_with fail
  go_ret
  exact ⟨rfl, rfl⟩
theorem ownExt {β : Type} {B : Nat} {X : Nat → Prop} {A : World} (hB : A.heap.size ≤ B) : OwnFrom B (fun (_ : β) W => Ext X A W) := fun _ W W' row hs hg hr =>
  ⟨hg.os.trans hs.os, hg.tape.trans hs.tape, hg.output.trans hs.output, Nat.le_trans hs.size hg.size, fun k hk hn => (hg.block k (Nat.lt_of_lt_of_le hk hs.size) (fun e => by have := (hr k e.symm).1; omega)).trans (hs.block k hk hn)⟩
/-- a function that ranged is left: the mark is taken -/
theorem leaves_mark {n : Nat} {fn : Func} {R : Ending → World → Prop} {tm : Array Value} {D : Nat} {U : World} {v : Value} (hd : U.heap[D]? = some (.deferred (some [])))
    (hr : (results fn tm).run Tryd.prog (U.putObj D (.deferred none)) = .ok v (U.putObj D (.deferred none))) (hR : R (.returned v) (U.putObj D (.deferred none))) :
    bodyPostM Fence.wide n Tryd.prog fn R .ret { tmps := tm, defers := [{ target := .collected D, args := #[] }] } U :=
  ⟨by simp, .inl ⟨_, _, rfl, run_takeDeferred hd, ⟨_, hr, hR⟩⟩⟩
theorem ext_shut {W U : World} {D : Nat} (hE : Ext none1 W U) (hD : W.heap.size ≤ D) : Ext none1 W (U.putObj D (.deferred none)) :=
  ⟨hE.os, hE.tape, hE.output, by have := hE.size; simp; omega, fun k hk hn => (World.putObj_heap_other (by omega)).trans (hE.block k hk hn)⟩
end Go.Proofs.YtbagfepdmmfegaaDoor
