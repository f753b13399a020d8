import Derived.Test.YtbagfepdmmfegaaDoorK24
import Derived.Test.YtbagfepdmmfegaaDoorK18
import Derived.Test.YtbagfepdmmfegaaDoorK09
set_option linter.unusedVariables false
set_option linter.unusedSimpArgs false
/- told: the second ranging, to its end. -/
namespace Go.Proofs.YtbagfepdmmfegaaDoor
open Go.RowKit Go.Shelf
attribute [local go_sem] Oper.semAt_some

def cSnd : Code → Code
  | .seq _ b => b
  | c => c
/-- what is left of told from its second ranging on -/
def IsT11 (c : Code) : Prop := c = (cSnd (cSnd (cSnd (cSnd (cSnd (cSnd (cSnd (cSnd (cSnd (cSnd (cSnd (Tryd.f72.body.getD .skip))))))))))))

theorem ownFrom_ext {β : Type} {B : Nat} {X : Nat → Prop} {A : World} (hB : A.heap.size ≤ B) : OwnFrom B (fun (_ : β) W => Ext X A W) := fun _ W W' row hs hg hr =>
  ⟨hg.os.trans hs.os, hg.tape.trans hs.tape, hg.output.trans hs.output, Nat.le_trans hs.size hg.size, fun k hk hn => (hg.block k (Nat.lt_of_lt_of_le hk hs.size) (fun e => by have := (hr k e.symm).1; omega)).trans (hs.block k hk hn)⟩
theorem next_of {l pre : List (Int × Int)} {x : Int × Int} (h : pre ++ [x] <+: l) : pre.length < l.length ∧ Ti.bk l pre.length = x := by
  obtain ⟨t, rfl⟩ := h
  refine ⟨by simp, ?_⟩
  simp [Ti.bk]

set_option maxRecDepth 100000 in
set_option maxHeartbeats 40000000 in
theorem told_t3 (cd : Code) (hcd : IsT11 cd) (n : Nat) (hn : 12 ≤ n) (Q : Exit → Act → World → Prop) (W : World) (x r m bf bz pb rb nb bm : Nat) (fr : Nat → Prop) (S : Ti.St) (k0 : Int) (hP : PrAt W m bf bz S) (hR : RefIs W r fr S)
    (e0 : W.heap[pb]? = some (.cells #[.pointer (some ⟨x, 0, none⟩), .pointer (some ⟨r, 0, none⟩)] 85 (0, 0)))
    (e1 : W.heap[rb]? = some (.cells #[.bool false] 4 (0, 0)))
    (e2 : W.heap[nb]? = some (.cells #[.int .i64 k0] 3 (0, 0)))
    (e3 : W.heap[bm]? = some (.cells #[.pointer (some ⟨m, 0, none⟩)] 69 (0, 0)))
    (d1 : pb ≠ nb) (d2 : rb ≠ nb) (d3 : bm ≠ nb) (d4 : m ≠ nb) (d5 : bf ≠ nb) (d6 : bz ≠ nb) (d7 : ¬ fr nb) (d8 : pb ≠ rb) (d9 : ¬ fr rb)
    (u0 u1 u3 u6 u7 u9 u10 u11 u12 u13 u14 u15 u16 u17 u18 u19 u20 u21 u22 u23 u24 u25 u26 u27 u28 u29 u30 u31 u32 u33 u34 u35 u36 u37 u38 u39 u40 u41 u42 u43 u44 u45 u46 u47 u48 u49 u50 u51 u52 u53 u54 u55 u56 u57 u58 u59 u60 u61 u62 u63 u64 u65 u66 u67 u68 u69 u70 u71 u72 u73 u74 u75 u76 u77 u78 u79 u80 u81 u82 u83 u84 u85 u86 u87 u88 u89 u90 u91 u92 u93 u94 u95 u96 u97 u98 u99 u100 u101 u102 u103 u104 u105 u106 u107 u108 u109 u110 u111 u112 u113 u114 u115 u116 u117 u118 u119 u120 u121 u122 u123 u124 u125 u126 u127 u128 u129 u130 u131 u132 u133 u134 u135 u136 u137 u138 u139 u140 u141 u142 u143 u144 u145 u146 u147 u148 u149 u150 u151 u152 u153 u154 u155 u156 u157 u158 u159 u160 u161 u162 u163 u164 u165 u166 u167 u168 u169 u170 u171 u172 u173 u174 u175 u176 u177 u178 u179 u180 u181 u182 u183 u184 u185 u186 u187 u188 u189 u190 u191 u192 u193 : Value) (ds : List Deferred)
    (hQ : ∀ D tm W', W.heap.size ≤ D → tm.getD 4 undef = .pointer (some ⟨rb, 0, none⟩) → W'.heap[D]? = some (.deferred (some [])) → W'.heap[rb]? = some (.cells #[.bool true] 4 (0, 0)) → Ext (two nb rb) W W' → Q .ret { tmps := tm, defers := { target := .collected D, args := #[] } :: ds } W') :
    cd.wpIn Fence.wide n Tryd.prog Q { tmps := #[u0, u1, .pointer (some ⟨pb, 0, none⟩), u3, .pointer (some ⟨rb, 0, none⟩), .func (.func 61) #[] #[.pointer (some ⟨bm, 0, none⟩)], u6, u7, .pointer (some ⟨nb, 0, none⟩), u9, u10, u11, u12, u13, u14, u15, u16, u17, u18, u19, u20, u21, u22, u23, u24, u25, u26, u27, u28, u29, u30, u31, u32, u33, u34, u35, u36, u37, u38, u39, u40, u41, u42, u43, u44, u45, u46, u47, u48, u49, u50, u51, u52, u53, u54, u55, u56, u57, u58, u59, u60, u61, u62, u63, u64, u65, u66, u67, u68, u69, u70, u71, u72, u73, u74, u75, u76, u77, u78, u79, u80, u81, u82, u83, u84, u85, u86, u87, u88, u89, u90, u91, u92, u93, u94, u95, u96, u97, u98, u99, u100, u101, u102, u103, u104, u105, u106, u107, u108, u109, u110, u111, u112, u113, u114, u115, u116, u117, u118, u119, u120, u121, u122, u123, u124, u125, u126, u127, u128, u129, u130, u131, u132, u133, u134, u135, u136, u137, u138, u139, u140, u141, u142, u143, u144, u145, u146, u147, u148, u149, u150, u151, u152, u153, u154, u155, u156, u157, u158, u159, u160, u161, u162, u163, u164, u165, u166, u167, u168, u169, u170, u171, u172, u173, u174, u175, u176, u177, u178, u179, u180, u181, u182, u183, u184, u185, u186, u187, u188, u189, u190, u191, u192, u193], defers := ds } W := by
  have h1 : 1 ≤ n := by omega
  have hI := hR.inv
  have c2 := cell_of e2 0
  have c2f := frozen_of e2 0
  simp at c2
  have hE1 : Ext (one nb) W (W.setCell ⟨nb, 0, none⟩ (.int .i64 0)) := (Ext.refl (one nb) W).setCell ⟨nb, 0, none⟩ (.inl rfl) _
  have f0 := hE1.keep e0 d1
  have f1 := hE1.keep e1 d2
  have f2 := heap_set e2 0 (.int .i64 0)
  have f3 := hE1.keep e3 d3
  have hP1 := hP.ext hE1 d4 d5 d6
  have hR1 := hR.keep hE1 (fun k hk e => d7 (by have e : k = nb := e; rw [← e]; exact hk))
  have hs1 := hE1.size
  refine wpIn_mono (Q := fun e a w => e = .ret ∧ Q e a w) ?_ (fun _ _ _ h => h.2)
  unfold IsT11 at hcd
  subst hcd
  simp only [Tryd.f72, Option.getD_some, cSnd]
  gi_wp2_with fail
  clear c2 c2f e0 e1 e2 e3 hP hR
  generalize W.setCell ⟨nb, 0, none⟩ (.int .i64 0) = W1 at *
  have hn1 := lt_of_heap f2
  refine range_J (hro := rfl) h1 (gf := 61) (lb := #[.pointer (some ⟨bm, 0, none⟩)]) rfl trivial (enters_of Tryd.func61 (by kernel_rfl) rfl)
    (live_J (n - 1) (by omega) (one nb) m bf bz bm S hI.toInv0 W1 (fun k h => by have : k = nb := h; omega) f3 hP1)
    (fun a b => a.trans b) (fun W l o _ => stay_put _ W l o) (fun _ => rfl)
    (fun pre U => U.heap[nb]? = some (.cells #[.int .i64 (pre.length : Int)] 3 (0, 0)) ∧ Ext (one nb) W1 U)
    (fun _ _ _ => False)
    (OwnFrom.and (ownFrom_block (by omega) _) (ownFrom_ext (Nat.le_refl _)))
    (fun _ _ _ _ _ h _ _ => h) (fun _ _ _ => trivial) ⟨f2, Ext.refl _ _⟩
    (fun y => { tmps := #[u0, u1, .pointer (some ⟨pb, 0, none⟩), u3, .pointer (some ⟨rb, 0, none⟩), .func (.func 61) #[] #[.pointer (some ⟨bm, 0, none⟩)], u6, u7, .pointer (some ⟨nb, 0, none⟩), u9, u10, u11, u12, u13, u14, u15, .int .i64 y.1, .int .i64 y.2, u18, u19, u20, u21, u22, u23, u24, u25, u26, u27, u28, u29, u30, u31, u32, u33, u34, u35, u36, u37, u38, u39, u40, u41, u42, u43, u44, u45, u46, u47, u48, u49, u50, u51, u52, u53, u54, u55, u56, u57, u58, u59, u60, u61, u62, u63, u64, u65, u66, u67, u68, u69, u70, u71, u72, u73, u74, u75, u76, u77, u78, u79, u80, u81, u82, u83, u84, u85, u86, u87, u88, u89, u90, u91, u92, u93, u94, u95, u96, u97, u98, u99, u100, u101, u102, u103, u104, u105, u106, u107, u108, u109, u110, u111, u112, u113, u114, u115, u116, u117, u118, u119, u120, u121, u122, u123, u124, u125, u126, u127, u128, u129, u130, u131, u132, u133, u134, u135, u136, u137, u138, u139, u140, u141, u142, u143, u144, u145, u146, .func (.func 61) #[] #[.pointer (some ⟨bm, 0, none⟩)], .int .i64 y.1, .int .i64 y.2, u150, u151, u152, u153, u154, u155, u156, u157, u158, u159, u160, u161, u162, u163, u164, u165, u166, u167, u168, u169, u170, u171, u172, u173, u174, u175, u176, u177, u178, u179, u180, u181, u182, u183, u184, u185, u186, u187, u188, u189, u190, u191, u192, u193], defers := [] }) ?assign ?body ?done ?stop
  case assign =>
    intro l y U K hK
    gi_wp2
    simpa using hK
  case body =>
    rintro l pre y U hll ⟨g2, hE⟩ hok
    obtain ⟨hlt, hbk⟩ := next_of hok
    have g0 := hE.keep f0 d1
    have hRU := hR1.keep hE (fun k hk e => d7 (by have e : k = nb := e; rw [← e]; exact hk))
    obtain ⟨_, bf', bz', p, cap, hRA, _⟩ := hRU
    obtain ⟨bb, c, f, rfl, hbb, hc0, hc1⟩ := hRA.blocks _ hlt
    rw [hbk] at hc0 hc1
    have hcap := hRA.le
    have hfew := blocks_few S hI.toInv0
    have y0 := cell_of g2 0
    have y1 := cell_of g0 1
    have y2 := cell_of hRA.hd 4
    have y3 : U.cell? ⟨bb, pre.length * 2, none⟩ = some (.int .i64 y.1) := by rw [cell_of hbb]; exact hc0
    have y4 : U.cell? ⟨bb, pre.length * 2 + 1, none⟩ = some (.int .i64 y.2) := by rw [cell_of hbb]; exact hc1
    have y5 := frozen_of g2 0
    simp at y0 y1 y2
    have l0 := lt_of_heap g2
    have l1 := lt_of_heap g0
    have l2 := lt_of_heap hRA.hd
    have l3 := lt_of_heap hbb
    have hcc : ∀ (w' : World) (b o : Nat), Ext none1 U w' → b < U.heap.size → w'.cell? ⟨b, o, none⟩ = U.cell? ⟨b, o, none⟩ := fun w' b o hE hl => by
      unfold World.cell?
      simp only [hE.block b hl (fun x => x)]
    have q0 : ∀ (w' : World) (o : Nat), Ext none1 U w' → w'.cell? ⟨nb, o, none⟩ = U.cell? ⟨nb, o, none⟩ := fun w' o h => hcc w' _ o h l0
    have q1 : ∀ (w' : World) (o : Nat), Ext none1 U w' → w'.cell? ⟨pb, o, none⟩ = U.cell? ⟨pb, o, none⟩ := fun w' o h => hcc w' _ o h l1
    have q2 : ∀ (w' : World) (o : Nat), Ext none1 U w' → w'.cell? ⟨r, o, none⟩ = U.cell? ⟨r, o, none⟩ := fun w' o h => hcc w' _ o h l2
    have q3 : ∀ (w' : World) (o : Nat), Ext none1 U w' → w'.cell? ⟨bb, o, none⟩ = U.cell? ⟨bb, o, none⟩ := fun w' o h => hcc w' _ o h l3
    have hlt' : (pre.length : Int) < (S.blocks.length : Int) := by omega
    have hnge : decide ((S.blocks.length : Int) ≤ (pre.length : Int)) = false := decide_eq_false (by omega)
    have Hfin : Hid (∀ V, Ext none1 U V → KeepsFrom W1.heap.size U (V.setCell ⟨nb, 0, none⟩ (.int .i64 ((pre.length : Int) + 1))) ∧ Stay (but (one nb) l) U (V.setCell ⟨nb, 0, none⟩ (.int .i64 ((pre.length : Int) + 1))) ∧ ((V.setCell ⟨nb, 0, none⟩ (.int .i64 ((pre.length : Int) + 1))).heap[nb]? = some (.cells #[.int .i64 ((pre ++ [y]).length : Int)] 3 (0, 0)) ∧ Ext (one nb) W1 (V.setCell ⟨nb, 0, none⟩ (.int .i64 ((pre.length : Int) + 1))))) := fun V hV =>
      ⟨KeepsFrom.trans ⟨hV.size, fun k o _ ho _ => hV.keep ho (fun x => x)⟩ ((KeepsOthers.setCell _ _ _).from _), (Stay.of_ext hV (fun _ _ x => x)).setCell ⟨nb, 0, none⟩ (fun hh => hh.1 rfl) _, by rw [heap_set (hV.keep g2 (fun x => x))]; simp, (hE.trans (hV.mono (fun _ _ x => x.elim))).setCell ⟨nb, 0, none⟩ (.inl rfl) _⟩
    have hEd : Ext none1 U U.drew := (Ext.refl _ _).drew
    clear hcc hRA hbb hc0 hc1 hok hE hR1 hQ g0 g2
    gi_wp2_with fail
    refine wpIn_region_round (S := fun w' => Ext none1 U w') (by kernel_rfl) (by kernel_rfl) (by rintro ⟨_, _, hh⟩; exact hh) hEd (fun hHeld => ?_)
    refine take_dst 0 150 (v := ?_) rfl (by kernel_rfl) (by kernel_rfl) (by kernel_rfl) rfl (fun _ _ _ h => h) (Or.inl ⟨by rfl, ?_⟩) (by assumption) ?_
    rotate_left
    · intro wx hSw
      first | (go_simp; done) | (go_simp; with_reducible rfl)
    simp only [Act.put, List.setIfInBounds_toArray, List.set_cons_zero, List.set_cons_succ]
    refine take_dst 1 151 (v := ?_) rfl (by kernel_rfl) (by kernel_rfl) (by kernel_rfl) rfl (fun _ _ _ h => h) (Or.inl ⟨by rfl, ?_⟩) (by assumption) ?_
    rotate_left
    · intro wx hSw
      first | (go_simp; done) | (go_simp; with_reducible rfl)
    simp only [Act.put, List.setIfInBounds_toArray, List.set_cons_zero, List.set_cons_succ]
    refine take_dst 2 152 (v := ?_) rfl (by kernel_rfl) (by kernel_rfl) (by kernel_rfl) rfl (fun _ _ _ h => h) (Or.inl ⟨by rfl, ?_⟩) (by assumption) ?_
    rotate_left
    · intro wx hSw
      first | (go_simp; done) | (go_simp; with_reducible rfl)
    simp only [Act.put, List.setIfInBounds_toArray, List.set_cons_zero, List.set_cons_succ]
    refine take_dst 3 153 (v := ?_) rfl (by kernel_rfl) (by kernel_rfl) (by kernel_rfl) rfl (fun _ _ _ h => h) (Or.inl ⟨by rfl, ?_⟩) (by assumption) ?_
    rotate_left
    · intro wx hSw
      first | (go_simp; done) | (go_simp; with_reducible rfl)
    simp only [Act.put, List.setIfInBounds_toArray, List.set_cons_zero, List.set_cons_succ]
    refine take_dst 4 154 (v := ?_) rfl (by kernel_rfl) (by kernel_rfl) (by kernel_rfl) rfl (fun _ _ _ h => h) (Or.inl ⟨by rfl, ?_⟩) (by assumption) ?_
    rotate_left
    · intro wx hSw
      first | (go_simp; done) | (go_simp; with_reducible rfl)
    simp only [Act.put, List.setIfInBounds_toArray, List.set_cons_zero, List.set_cons_succ]
    refine take_dst 5 155 (v := ?_) rfl (by kernel_rfl) (by kernel_rfl) (by kernel_rfl) rfl (fun _ _ _ h => h) (Or.inl ⟨by rfl, ?_⟩) (by assumption) ?_
    rotate_left
    · intro wx hSw
      first | (go_simp; done) | (go_simp; with_reducible rfl)
    simp only [Act.put, List.setIfInBounds_toArray, List.set_cons_zero, List.set_cons_succ]
    refine take_dst 6 156 (v := ?_) rfl (by kernel_rfl) (by kernel_rfl) (by kernel_rfl) rfl (fun _ _ _ h => h) (Or.inl ⟨by rfl, ?_⟩) (by assumption) ?_
    rotate_left
    · intro wx hSw
      first | (go_simp; done) | (go_simp; with_reducible rfl)
    simp only [Act.put, List.setIfInBounds_toArray, List.set_cons_zero, List.set_cons_succ]
    refine take_dst 7 157 (v := .bool false) rfl (by kernel_rfl) (by kernel_rfl) (by kernel_rfl) rfl (fun _ _ _ h => h) (Or.inl ⟨by rfl, ?_⟩) (by assumption) ?_
    · intro wx hSw
      first | (go_simp; done) | (go_simp; simp; done) | (go_simp; simp; omega)
    simp only [Act.put, List.setIfInBounds_toArray, List.set_cons_zero, List.set_cons_succ]
    refine take_dst 8 158 (v := ?_) rfl (by kernel_rfl) (by kernel_rfl) (by kernel_rfl) rfl (fun _ _ _ h => h) (Or.inl ⟨by rfl, ?_⟩) (by assumption) ?_
    rotate_left
    · intro wx hSw
      first | (go_simp; done) | (go_simp; with_reducible rfl)
    simp only [Act.put, List.setIfInBounds_toArray, List.set_cons_zero, List.set_cons_succ]
    refine take_dst 9 159 (v := ?_) rfl (by kernel_rfl) (by kernel_rfl) (by kernel_rfl) rfl (fun _ _ _ h => h) (Or.inl ⟨by rfl, ?_⟩) (by assumption) ?_
    rotate_left
    · intro wx hSw
      first | (go_simp; done) | (go_simp; with_reducible rfl)
    simp only [Act.put, List.setIfInBounds_toArray, List.set_cons_zero, List.set_cons_succ]
    refine take_dst 10 160 (v := ?_) rfl (by kernel_rfl) (by kernel_rfl) (by kernel_rfl) rfl (fun _ _ _ h => h) (Or.inl ⟨by rfl, ?_⟩) (by assumption) ?_
    rotate_left
    · intro wx hSw
      first | (go_simp; done) | (go_simp; with_reducible rfl)
    simp only [Act.put, List.setIfInBounds_toArray, List.set_cons_zero, List.set_cons_succ]
    refine take_dst 11 161 (v := ?_) rfl (by kernel_rfl) (by kernel_rfl) (by kernel_rfl) rfl (fun _ _ _ h => h) (Or.inl ⟨by rfl, ?_⟩) (by assumption) ?_
    rotate_left
    · intro wx hSw
      first | (go_simp; done) | (go_simp; with_reducible rfl)
    simp only [Act.put, List.setIfInBounds_toArray, List.set_cons_zero, List.set_cons_succ]
    refine take_dst 12 162 (v := ?_) rfl (by kernel_rfl) (by kernel_rfl) (by kernel_rfl) rfl (fun _ _ _ h => h) (Or.inl ⟨by rfl, ?_⟩) (by assumption) ?_
    rotate_left
    · intro wx hSw
      first | (go_simp; done) | (go_simp; with_reducible rfl)
    simp only [Act.put, List.setIfInBounds_toArray, List.set_cons_zero, List.set_cons_succ]
    refine take_dst 13 163 (v := ?_) rfl (by kernel_rfl) (by kernel_rfl) (by kernel_rfl) rfl (fun _ _ _ h => h) (Or.inl ⟨by rfl, ?_⟩) (by assumption) ?_
    rotate_left
    · intro wx hSw
      first | (go_simp; done) | (go_simp; with_reducible rfl)
    simp only [Act.put, List.setIfInBounds_toArray, List.set_cons_zero, List.set_cons_succ]
    refine take_dst 14 164 (v := ?_) rfl (by kernel_rfl) (by kernel_rfl) (by kernel_rfl) rfl (fun _ _ _ h => h) (Or.inl ⟨by rfl, ?_⟩) (by assumption) ?_
    rotate_left
    · intro wx hSw
      first | (go_simp; done) | (go_simp; with_reducible rfl)
    simp only [Act.put, List.setIfInBounds_toArray, List.set_cons_zero, List.set_cons_succ]
    refine take_dst 15 165 (v := ?_) rfl (by kernel_rfl) (by kernel_rfl) (by kernel_rfl) rfl (fun _ _ _ h => h) (Or.inl ⟨by rfl, ?_⟩) (by assumption) ?_
    rotate_left
    · intro wx hSw
      first | (go_simp; done) | (go_simp; with_reducible rfl)
    simp only [Act.put, List.setIfInBounds_toArray, List.set_cons_zero, List.set_cons_succ]
    refine take_dst 16 166 (v := ?_) rfl (by kernel_rfl) (by kernel_rfl) (by kernel_rfl) rfl (fun _ _ _ h => h) (Or.inl ⟨by rfl, ?_⟩) (by assumption) ?_
    rotate_left
    · intro wx hSw
      first | (go_simp; done) | (go_simp; with_reducible rfl)
    simp only [Act.put, List.setIfInBounds_toArray, List.set_cons_zero, List.set_cons_succ]
    refine take_dst 17 167 (v := ?_) rfl (by kernel_rfl) (by kernel_rfl) (by kernel_rfl) rfl (fun _ _ _ h => h) (Or.inl ⟨by rfl, ?_⟩) (by assumption) ?_
    rotate_left
    · intro wx hSw
      first | (go_simp; done) | (go_simp; with_reducible rfl)
    simp only [Act.put, List.setIfInBounds_toArray, List.set_cons_zero, List.set_cons_succ]
    refine take_dst 18 168 (v := ?_) rfl (by kernel_rfl) (by kernel_rfl) (by kernel_rfl) rfl (fun _ _ _ h => h) (Or.inl ⟨by rfl, ?_⟩) (by assumption) ?_
    rotate_left
    · intro wx hSw
      first | (go_simp; done) | (go_simp; with_reducible rfl)
    simp only [Act.put, List.setIfInBounds_toArray, List.set_cons_zero, List.set_cons_succ]
    refine take_dst 19 169 (v := .bool false) rfl (by kernel_rfl) (by kernel_rfl) (by kernel_rfl) rfl (fun _ _ _ h => h) (Or.inl ⟨by rfl, ?_⟩) (by assumption) ?_
    · intro wx hSw
      first | (go_simp; done) | (go_simp; simp; done) | (go_simp; simp; omega)
    simp only [Act.put, List.setIfInBounds_toArray, List.set_cons_zero, List.set_cons_succ]
    refine take_dst 20 170 (v := ?_) rfl (by kernel_rfl) (by kernel_rfl) (by kernel_rfl) rfl (fun _ _ _ h => h) (Or.inl ⟨by rfl, ?_⟩) (by assumption) ?_
    rotate_left
    · intro wx hSw
      first | (go_simp; done) | (go_simp; with_reducible rfl)
    simp only [Act.put, List.setIfInBounds_toArray, List.set_cons_zero, List.set_cons_succ]
    refine take_dst 21 171 (v := ?_) rfl (by kernel_rfl) (by kernel_rfl) (by kernel_rfl) rfl (fun _ _ _ h => h) (Or.inl ⟨by rfl, ?_⟩) (by assumption) ?_
    rotate_left
    · intro wx hSw
      first | (go_simp; done) | (go_simp; with_reducible rfl)
    simp only [Act.put, List.setIfInBounds_toArray, List.set_cons_zero, List.set_cons_succ]
    refine take_dst 22 172 (v := ?_) rfl (by kernel_rfl) (by kernel_rfl) (by kernel_rfl) rfl (fun _ _ _ h => h) (Or.inl ⟨by rfl, ?_⟩) (by assumption) ?_
    rotate_left
    · intro wx hSw
      first | (go_simp; done) | (go_simp; with_reducible rfl)
    simp only [Act.put, List.setIfInBounds_toArray, List.set_cons_zero, List.set_cons_succ]
    refine take_dst 23 173 (v := ?_) rfl (by kernel_rfl) (by kernel_rfl) (by kernel_rfl) rfl (fun _ _ _ h => h) (Or.inl ⟨by rfl, ?_⟩) (by assumption) ?_
    rotate_left
    · intro wx hSw
      first | (go_simp; done) | (go_simp; with_reducible rfl)
    simp only [Act.put, List.setIfInBounds_toArray, List.set_cons_zero, List.set_cons_succ]
    refine take_dst 24 174 (v := ?_) rfl (by kernel_rfl) (by kernel_rfl) (by kernel_rfl) rfl (fun _ _ _ h => h) (Or.inl ⟨by rfl, ?_⟩) (by assumption) ?_
    rotate_left
    · intro wx hSw
      first | (go_simp; done) | (go_simp; with_reducible rfl)
    simp only [Act.put, List.setIfInBounds_toArray, List.set_cons_zero, List.set_cons_succ]
    refine take_dst 25 175 (v := ?_) rfl (by kernel_rfl) (by kernel_rfl) (by kernel_rfl) rfl (fun _ _ _ h => h) (Or.inl ⟨by rfl, ?_⟩) (by assumption) ?_
    rotate_left
    · intro wx hSw
      first | (go_simp; done) | (go_simp; with_reducible rfl)
    simp only [Act.put, List.setIfInBounds_toArray, List.set_cons_zero, List.set_cons_succ]
    refine take_dst 26 176 (v := ?_) rfl (by kernel_rfl) (by kernel_rfl) (by kernel_rfl) rfl (fun _ _ _ h => h) (Or.inl ⟨by rfl, ?_⟩) (by assumption) ?_
    rotate_left
    · intro wx hSw
      first | (go_simp; done) | (go_simp; with_reducible rfl)
    simp only [Act.put, List.setIfInBounds_toArray, List.set_cons_zero, List.set_cons_succ]
    refine take_dst 27 177 (v := ?_) rfl (by kernel_rfl) (by kernel_rfl) (by kernel_rfl) rfl (fun _ _ _ h => h) (Or.inl ⟨by rfl, ?_⟩) (by assumption) ?_
    rotate_left
    · intro wx hSw
      first | (go_simp; done) | (go_simp; with_reducible rfl)
    simp only [Act.put, List.setIfInBounds_toArray, List.set_cons_zero, List.set_cons_succ]
    refine take_dst 28 178 (v := ?_) rfl (by kernel_rfl) (by kernel_rfl) (by kernel_rfl) rfl (fun _ _ _ h => h) (Or.inl ⟨by rfl, ?_⟩) (by assumption) ?_
    rotate_left
    · intro wx hSw
      first | (go_simp; done) | (go_simp; with_reducible rfl)
    simp only [Act.put, List.setIfInBounds_toArray, List.set_cons_zero, List.set_cons_succ]
    refine take_dst 29 179 (v := ?_) rfl (by kernel_rfl) (by kernel_rfl) (by kernel_rfl) rfl (fun _ _ _ h => h) (Or.inl ⟨by rfl, ?_⟩) (by assumption) ?_
    rotate_left
    · intro wx hSw
      first | (go_simp; done) | (go_simp; with_reducible rfl)
    simp only [Act.put, List.setIfInBounds_toArray, List.set_cons_zero, List.set_cons_succ]
    refine take_dst 30 180 (v := ?_) rfl (by kernel_rfl) (by kernel_rfl) (by kernel_rfl) rfl (fun _ _ _ h => h) (Or.inl ⟨by rfl, ?_⟩) (by assumption) ?_
    rotate_left
    · intro wx hSw
      first | (go_simp; done) | (go_simp; with_reducible rfl)
    simp only [Act.put, List.setIfInBounds_toArray, List.set_cons_zero, List.set_cons_succ]
    refine take_dst 31 181 (v := ?_) rfl (by kernel_rfl) (by kernel_rfl) (by kernel_rfl) rfl (fun _ _ _ h => h) (Or.inl ⟨by rfl, ?_⟩) (by assumption) ?_
    rotate_left
    · intro wx hSw
      first | (go_simp; done) | (go_simp; with_reducible rfl)
    simp only [Act.put, List.setIfInBounds_toArray, List.set_cons_zero, List.set_cons_succ]
    refine take_dst 32 182 (v := .bool false) rfl (by kernel_rfl) (by kernel_rfl) (by kernel_rfl) rfl (fun _ _ _ h => h) (Or.inl ⟨by rfl, ?_⟩) (by assumption) ?_
    · intro wx hSw
      first | (go_simp; done) | (go_simp; simp; done) | (go_simp; simp; omega)
    simp only [Act.put, List.setIfInBounds_toArray, List.set_cons_zero, List.set_cons_succ]
    refine take_dst 33 183 (v := ?_) rfl (by kernel_rfl) (by kernel_rfl) (by kernel_rfl) rfl (fun _ _ _ h => h) (Or.inl ⟨by rfl, ?_⟩) (by assumption) ?_
    rotate_left
    · intro wx hSw
      first | (go_simp; done) | (go_simp; with_reducible rfl)
    simp only [Act.put, List.setIfInBounds_toArray, List.set_cons_zero, List.set_cons_succ]
    refine wpAnyH_done (by kernel_rfl) ?_ _
    skip
    have y0' := q0 _ 0 hEd
    rw [y0] at y0'
    have y5' : U.drew.frozen? ⟨nb, 0, none⟩ = false := y5
    gi_wp2
    exact Hfin.out _ hEd
  case done =>
    rintro D ys U hD rfl ⟨g2, hE⟩ hKd
    have g0 := hE.keep f0 d1
    have g1 := hE.keep f1 d2
    have hRU := hR1.keep hE (fun k hk e => d7 (by have e : k = nb := e; rw [← e]; exact hk))
    obtain ⟨_, bf', bz', p, cap, hRA, _, hfr, _⟩ := hRU
    have d10 : r ≠ rb := fun e => d9 (by rw [← e]; exact hfr)
    have y0 := cell_of g2 0
    have y1 := cell_of g0 1
    have y2 := cell_of hRA.hd 4
    have y3 := cell_of g1 0
    have y4 := frozen_of g1 0
    simp at y0 y1 y2 y3
    have l0 := lt_of_heap g2
    have l1 := lt_of_heap g0
    have l2 := lt_of_heap hRA.hd
    have hcc : ∀ (w' : World) (b o : Nat), Ext (one rb) U w' → b < U.heap.size → b ≠ rb → w'.cell? ⟨b, o, none⟩ = U.cell? ⟨b, o, none⟩ := fun w' b o hE hl hn => by
      unfold World.cell?
      simp only [hE.block b hl hn]
    have q0 : ∀ (w' : World) (o : Nat), Ext (one rb) U w' → w'.cell? ⟨nb, o, none⟩ = U.cell? ⟨nb, o, none⟩ := fun w' o h => hcc w' _ o h l0 (Ne.symm d2)
    have q1 : ∀ (w' : World) (o : Nat), Ext (one rb) U w' → w'.cell? ⟨pb, o, none⟩ = U.cell? ⟨pb, o, none⟩ := fun w' o h => hcc w' _ o h l1 d8
    have q2 : ∀ (w' : World) (o : Nat), Ext (one rb) U w' → w'.cell? ⟨r, o, none⟩ = U.cell? ⟨r, o, none⟩ := fun w' o h => hcc w' _ o h l2 d10
    have hfew := blocks_few S hI.toInv0
    have hDrb : D ≠ rb := fun e => by rw [e, g1] at hKd; cases hKd
    have Hfin : Hid (∀ tm, tm.getD 4 undef = .pointer (some ⟨rb, 0, none⟩) → Q .ret { tmps := tm, defers := { target := .collected D, args := #[] } :: ds } (U.drew.setCell ⟨rb, 0, none⟩ (.bool true))) := fun tm htm =>
      hQ D tm _ (by omega) htm ((heap_set_ne hDrb _ _).trans hKd) (heap_set (w := U.drew) g1 0 (.bool true)) ((((hE1.trans hE).mono (fun _ _ h => .inl h)).drew).setCell ⟨rb, 0, none⟩ (.inl (.inr rfl)) _)
    clear hcc hRA hE hR1 hQ g0 g1 g2 hKd
    gi_wp2_with fail
    refine wpIn_region_wideQ (fun w' => Ext (one rb) U w') (by kernel_rfl) (by kernel_rfl) (Ext.refl _ _).drew (fun hHeld => ?_)
    refine take_dst 0 186 (v := ?_) rfl (by kernel_rfl) (by kernel_rfl) (by kernel_rfl) rfl (fun _ _ _ h => absurd (And.left (And.right h)) (fun e => by cases e)) (Or.inl ⟨by rfl, ?_⟩) (by assumption) ?_
    rotate_left
    · intro wx hSw
      first | (go_simp; done) | (go_simp; with_reducible rfl)
    simp only [Act.put, List.setIfInBounds_toArray, List.set_cons_zero, List.set_cons_succ]
    refine take_dst 1 187 (v := ?_) rfl (by kernel_rfl) (by kernel_rfl) (by kernel_rfl) rfl (fun _ _ _ h => absurd (And.left (And.right h)) (fun e => by cases e)) (Or.inl ⟨by rfl, ?_⟩) (by assumption) ?_
    rotate_left
    · intro wx hSw
      first | (go_simp; done) | (go_simp; with_reducible rfl)
    simp only [Act.put, List.setIfInBounds_toArray, List.set_cons_zero, List.set_cons_succ]
    refine take_dst 2 188 (v := ?_) rfl (by kernel_rfl) (by kernel_rfl) (by kernel_rfl) rfl (fun _ _ _ h => absurd (And.left (And.right h)) (fun e => by cases e)) (Or.inl ⟨by rfl, ?_⟩) (by assumption) ?_
    rotate_left
    · intro wx hSw
      first | (go_simp; done) | (go_simp; with_reducible rfl)
    simp only [Act.put, List.setIfInBounds_toArray, List.set_cons_zero, List.set_cons_succ]
    refine take_dst 3 189 (v := ?_) rfl (by kernel_rfl) (by kernel_rfl) (by kernel_rfl) rfl (fun _ _ _ h => absurd (And.left (And.right h)) (fun e => by cases e)) (Or.inl ⟨by rfl, ?_⟩) (by assumption) ?_
    rotate_left
    · intro wx hSw
      first | (go_simp; done) | (go_simp; with_reducible rfl)
    simp only [Act.put, List.setIfInBounds_toArray, List.set_cons_zero, List.set_cons_succ]
    refine take_dst 4 190 (v := ?_) rfl (by kernel_rfl) (by kernel_rfl) (by kernel_rfl) rfl (fun _ _ _ h => absurd (And.left (And.right h)) (fun e => by cases e)) (Or.inl ⟨by rfl, ?_⟩) (by assumption) ?_
    rotate_left
    · intro wx hSw
      first | (go_simp; done) | (go_simp; with_reducible rfl)
    simp only [Act.put, List.setIfInBounds_toArray, List.set_cons_zero, List.set_cons_succ]
    refine take_dst 5 191 (v := ?_) rfl (by kernel_rfl) (by kernel_rfl) (by kernel_rfl) rfl (fun _ _ _ h => absurd (And.left (And.right h)) (fun e => by cases e)) (Or.inl ⟨by rfl, ?_⟩) (by assumption) ?_
    rotate_left
    · intro wx hSw
      first | (go_simp; done) | (go_simp; with_reducible rfl)
    simp only [Act.put, List.setIfInBounds_toArray, List.set_cons_zero, List.set_cons_succ]
    refine take_dst 6 192 (v := ?_) rfl (by kernel_rfl) (by kernel_rfl) (by kernel_rfl) rfl (fun _ _ _ h => absurd (And.left (And.right h)) (fun e => by cases e)) (Or.inl ⟨by rfl, ?_⟩) (by assumption) ?_
    rotate_left
    · intro wx hSw
      first | (go_simp; done) | (go_simp; with_reducible rfl)
    simp only [Act.put, List.setIfInBounds_toArray, List.set_cons_zero, List.set_cons_succ]
    refine take_dst 7 193 (v := .bool true) rfl (by kernel_rfl) (by kernel_rfl) (by kernel_rfl) rfl (fun _ _ _ h => absurd (And.left (And.right h)) (fun e => by cases e)) (Or.inl ⟨by rfl, ?_⟩) (by assumption) ?_
    · intro wx hSw
      first | (go_simp; done) | (go_simp; simp; done) | (go_simp; simp; omega)
    simp only [Act.put, List.setIfInBounds_toArray, List.set_cons_zero, List.set_cons_succ]
    refine wpAnyH_ready (rs := [8]) (by kernel_rfl) (by simp) ?_
    refine AllReadyH.cons (o := { dst := none, op := Op.store 4 (Operand.tmp 4) (Operand.tmp 193), type := 0, pos := "law.go:125", after := #[{ on := 7, ground := Ground.data }, { on := 0, ground := Ground.phase }, { on := 1, ground := Ground.phase }, { on := 2, ground := Ground.phase }, { on := 3, ground := Ground.phase }, { on := 4, ground := Ground.phase }, { on := 5, ground := Ground.phase }, { on := 6, ground := Ground.phase }, { on := 7, ground := Ground.phase }], guard := none }) rfl (fun K hK => ?_) ?_
    · go_simp
      refine hK.out _ _ (hHeld.setCell ⟨rb, 0, none⟩ (.inl rfl) _) (fun hHeld => ?_)
      clear hK K
      try simp only [Act.put, List.setIfInBounds_toArray, List.set_cons_zero, List.set_cons_succ]
      refine wpAnyH_done (by kernel_rfl) ?_ _
      refine ⟨fun h => (by cases h), ?_⟩
      clear hHeld
      gi_wp2
      exact Hfin.out _ rfl
    exact AllReadyH.nil
  case stop =>
    rintro D c pre U _ _ h _
    exact h.elim
end Go.Proofs.YtbagfepdmmfegaaDoor
