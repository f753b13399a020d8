import Derived.Test.YtbagfepdmmfegaaDoorK26
set_option linter.unusedVariables false
set_option linter.unusedSimpArgs false
/- told: its first ranging, that may be left. -/
namespace Go.Proofs.YtbagfepdmmfegaaDoor
open Go.RowKit Go.Shelf
attribute [local go_sem] Oper.semAt_some

def IsT8 (c : Code) : Prop := c = (cSnd (cSnd (cSnd (cSnd (cSnd (cSnd (cSnd (cSnd (Tryd.f72.body.getD .skip)))))))))
theorem t8_split (c : Code) (hc : IsT8 c) : ∃ d, IsT9 d ∧ c = (cFst (cSnd (cSnd (cSnd (cSnd (cSnd (cSnd (cSnd (cSnd (Tryd.f72.body.getD .skip)))))))))).seq d := ⟨_, rfl, Eq.trans hc (by kernel_rfl)⟩

/-- behind w no cell but ok's has changed, and that is true -/
def OkS (okb : Nat) (U w' : World) : Prop := Ext (one okb) U w' ∧ w'.cell? ⟨okb, 0, none⟩ = some (.bool true)

set_option maxRecDepth 100000 in
set_option maxHeartbeats 40000000 in
theorem told_t8 (cd : Code) (hcd : IsT8 cd) (n : Nat) (hn : 12 ≤ n) (Q : Exit → Act → World → Prop) (W : World) (x r m pb ob rb nb bm : Nat) (fp : Nat → Prop) (S : Ti.St) (k0 kd on a b hh nn ss : Int) (hp : PairAt PrIs W x r fp S) (hx : XM W x m)
    (e0 : W.heap[pb]? = some (.cells #[.pointer (some ⟨x, 0, none⟩), .pointer (some ⟨r, 0, none⟩)] 85 (0, 0)))
    (eo : W.heap[ob]? = some (.cells #[.int .i64 kd, .int .i64 on, .int .i64 a, .int .i64 b, .int .i64 hh, .int .i64 nn, .int .i64 ss] 65 (0, 0)))
    (e1 : W.heap[rb]? = some (.cells #[.bool false] 4 (0, 0)))
    (e2 : W.heap[nb]? = some (.cells #[.int .i64 k0] 3 (0, 0)))
    (e3 : W.heap[bm]? = some (.cells #[.pointer (some ⟨m, 0, none⟩)] 69 (0, 0)))
    (d1 : pb ≠ nb) (d2 : rb ≠ nb) (d3 : bm ≠ nb) (d8 : pb ≠ rb) (p0 : ¬ fp pb) (p1 : ¬ fp rb) (p2 : ¬ fp nb) (p3 : ¬ fp bm) (p4 : ¬ fp ob) (z1 : nb ≠ 0) (z2 : rb ≠ 0) (a0 : -9223372036854775808 ≤ a) (a1 : a ≤ 9223372036854775807)
    (okb mb : Nat) (mo : Int) (eok : W.heap[okb]? = some (.cells #[.bool true] 4 (0, 0))) (em : W.heap[mb]? = some (.cells #[.int .i64 mo] 3 (0, 0))) (hk0 : k0 = 0) (m0 : 0 ≤ mo) (m1 : mo ≤ (S.blocks.length : Int))
    (c1 : pb ≠ okb) (c2 : ob ≠ okb) (c3 : rb ≠ okb) (c4 : bm ≠ okb) (c5 : mb ≠ okb) (c6 : okb ≠ nb) (d4 : ob ≠ nb) (d5 : mb ≠ nb) (p5 : ¬ fp okb) (z3 : okb ≠ 0)
    (u0 u1 u6 u7 u11 u12 u13 u14 u15 u16 u17 u18 u19 u20 u21 u22 u23 u24 u25 u26 u27 u28 u29 u30 u31 u32 u33 u34 u35 u36 u37 u38 u39 u40 u41 u42 u43 u44 u45 u46 u47 u48 u49 u50 u51 u52 u53 u54 u55 u56 u57 u58 u59 u60 u61 u62 u63 u64 u65 u66 u67 u68 u69 u70 u71 u72 u73 u74 u75 u76 u77 u78 u79 u80 u81 u82 u83 u84 u85 u86 u87 u88 u89 u90 u91 u92 u93 u94 u95 u96 u97 u98 u99 u100 u101 u102 u103 u104 u105 u106 u107 u108 u109 u110 u111 u112 u113 u114 u115 u116 u117 u118 u119 u120 u121 u122 u123 u124 u125 u126 u127 u128 u129 u130 u131 u132 u133 u134 u135 u136 u137 u138 u139 u140 u141 u142 u143 u144 u145 u146 u147 u148 u149 u150 u151 u152 u153 u154 u155 u156 u157 u158 u159 u160 u161 u162 u163 u164 u165 u166 u167 u168 u169 u170 u171 u172 u173 u174 u175 u176 u177 u178 u179 u180 u181 u182 u183 u184 u185 u186 u187 u188 u189 u190 u191 u192 u193 : Value) (ds : List Deferred)
    (hQ : ∀ D D' tm W' S' fp', W.heap.size ≤ D → W.heap.size ≤ D' → D ≠ D' → ¬ fp' D → ¬ fp' D' → tm.getD 4 undef = .pointer (some ⟨rb, 0, none⟩) → W'.heap[D]? = some (.deferred (some [])) → W'.heap[D']? = some (.deferred (some [])) → W'.heap[rb]? = some (.cells #[.bool true] 4 (0, 0)) → PairAt PrIs W' x r fp' S' → (∀ k, fp' k → fp k ∨ W.heap.size ≤ k) → Ext (fun k => fp k ∨ k = nb ∨ k = rb ∨ k = okb) W W' → Q .ret { tmps := tm, defers := { target := .collected D', args := #[] } :: { target := .collected D, args := #[] } :: ds } W') :
    cd.wpIn Fence.wide n Tryd.prog Q { tmps := #[u0, u1, .pointer (some ⟨pb, 0, none⟩), .pointer (some ⟨ob, 0, none⟩), .pointer (some ⟨rb, 0, none⟩), .func (.func 61) #[] #[.pointer (some ⟨bm, 0, none⟩)], u6, u7, .pointer (some ⟨nb, 0, none⟩), .pointer (some ⟨okb, 0, none⟩), .pointer (some ⟨mb, 0, none⟩), u11, u12, u13, u14, u15, u16, u17, u18, u19, u20, u21, u22, u23, u24, u25, u26, u27, u28, u29, u30, u31, u32, u33, u34, u35, u36, u37, u38, u39, u40, u41, u42, u43, u44, u45, u46, u47, u48, u49, u50, u51, u52, u53, u54, u55, u56, u57, u58, u59, u60, u61, u62, u63, u64, u65, u66, u67, u68, u69, u70, u71, u72, u73, u74, u75, u76, u77, u78, u79, u80, u81, u82, u83, u84, u85, u86, u87, u88, u89, u90, u91, u92, u93, u94, u95, u96, u97, u98, u99, u100, u101, u102, u103, u104, u105, u106, u107, u108, u109, u110, u111, u112, u113, u114, u115, u116, u117, u118, u119, u120, u121, u122, u123, u124, u125, u126, u127, u128, u129, u130, u131, u132, u133, u134, u135, u136, u137, u138, u139, u140, u141, u142, u143, u144, u145, u146, u147, u148, u149, u150, u151, u152, u153, u154, u155, u156, u157, u158, u159, u160, u161, u162, u163, u164, u165, u166, u167, u168, u169, u170, u171, u172, u173, u174, u175, u176, u177, u178, u179, u180, u181, u182, u183, u184, u185, u186, u187, u188, u189, u190, u191, u192, u193], defers := ds } W := by
  have h1 : 1 ≤ n := by omega
  subst hk0
  refine wpIn_mono (Q := fun e a w => e = .ret ∧ Q e a w) ?_ (fun _ _ _ h => h.2)
  have HQ : Hid _ := hQ
  clear hQ
  have hp' := hp
  obtain ⟨⟨fx, fr, q1, q2, q3, q4⟩, hl, hpos⟩ := hp'
  obtain ⟨bf, bz, hP, _, _, _⟩ := q1.mem hx
  have hfx : fp x := (q4 _).2 (.inl (let ⟨_, _, _, _, _, _, f, _⟩ := q1; f))
  have hI := q2.inv
  have hfew := blocks_few S hI.toInv0
  have l1 := lt_of_heap e0
  have l2 := lt_of_heap e1
  have l3 := lt_of_heap e2
  have l4 := lt_of_heap eok
  have l5 := lt_of_heap em
  have hfX : ∀ k, fp k → ¬ two nb okb k := fun k hk e => by
    rcases e with e | e
    · exact p2 (by rw [← show k = nb from e]; exact hk)
    · exact p5 (by rw [← show k = okb from e]; exact hk)
  have h0X : ¬ two nb okb 0 := by
    rintro (e | e)
    · exact z1 (Eq.symm e)
    · exact z3 (Eq.symm e)
  have hxX := hfX _ hfx
  obtain ⟨ct, hct, rfl⟩ := t8_split cd hcd
  clear hcd
  simp only [Tryd.f72, Option.getD_some, cSnd, cFst]
  gi_wp2_with fail
  refine range_J (hro := rfl) h1 (gf := 61) (lb := #[.pointer (some ⟨bm, 0, none⟩)]) rfl trivial (enters_of Tryd.func61 (by kernel_rfl) rfl)
    (live_J (n - 1) (by omega) (two nb okb) m bf bz bm S hI.toInv0 W (fun k h => by rcases h with h | h <;> omega) e3 hP)
    (fun a b => a.trans b) (fun W l o _ => stay_put _ W l o) (fun _ => rfl)
    (fun pre U => U.heap[nb]? = some (.cells #[.int .i64 (pre.length : Int)] 3 (0, 0)) ∧ U.heap[okb]? = some (.cells #[.bool true] 4 (0, 0)) ∧ (pre.length : Int) ≤ mo ∧ Ext (two nb okb) W U)
    (fun c _ U => c = .exit 0 ∧ U.heap[nb]? = some (.cells #[.int .i64 mo] 3 (0, 0)) ∧ U.heap[okb]? = some (.cells #[.bool true] 4 (0, 0)) ∧ Ext (two nb okb) W U)
    (OwnFrom.and (ownFrom_block (by omega) _) (OwnFrom.and (ownFrom_block (by omega) _) (OwnFrom.and (fun _ _ _ _ hs _ _ => hs) (ownFrom_ext (Nat.le_refl _)))))
    (fun c => OwnFrom.and (fun _ _ _ _ hs _ _ => hs) (OwnFrom.and (ownFrom_block (by omega) _) (OwnFrom.and (ownFrom_block (by omega) _) (ownFrom_ext (Nat.le_refl _)))))
    (fun _ _ _ => trivial) ⟨e2, eok, by simpa using m0, Ext.refl _ _⟩
    (fun y => { tmps := #[u0, u1, .pointer (some ⟨pb, 0, none⟩), .pointer (some ⟨ob, 0, none⟩), .pointer (some ⟨rb, 0, none⟩), .func (.func 61) #[] #[.pointer (some ⟨bm, 0, none⟩)], u6, u7, .pointer (some ⟨nb, 0, none⟩), .pointer (some ⟨okb, 0, none⟩), .pointer (some ⟨mb, 0, none⟩), .int .i64 y.1, .int .i64 y.2, u13, u14, u15, u16, u17, u18, u19, u20, u21, u22, u23, u24, u25, u26, u27, u28, u29, u30, u31, u32, u33, u34, u35, u36, u37, u38, u39, u40, u41, u42, u43, u44, u45, u46, .func (.func 61) #[] #[.pointer (some ⟨bm, 0, none⟩)], .int .i64 y.1, .int .i64 y.2, u50, u51, u52, u53, u54, u55, u56, u57, u58, u59, u60, u61, u62, u63, u64, u65, u66, u67, u68, u69, u70, u71, u72, u73, u74, u75, u76, u77, u78, u79, u80, u81, u82, u83, u84, u85, u86, u87, u88, u89, u90, u91, u92, u93, u94, u95, u96, u97, u98, u99, u100, u101, u102, u103, u104, u105, u106, u107, u108, u109, u110, u111, u112, u113, u114, u115, u116, u117, u118, u119, u120, u121, u122, u123, u124, u125, u126, u127, u128, u129, u130, u131, u132, u133, u134, u135, u136, u137, u138, u139, u140, u141, u142, u143, u144, u145, u146, u147, u148, u149, u150, u151, u152, u153, u154, u155, u156, u157, u158, u159, u160, u161, u162, u163, u164, u165, u166, u167, u168, u169, u170, u171, u172, u173, u174, u175, u176, u177, u178, u179, u180, u181, u182, u183, u184, u185, u186, u187, u188, u189, u190, u191, u192, u193], defers := [] }) ?assign ?body ?done ?stop
  case assign =>
    intro l y U K hK
    gi_wp2
    simpa using hK
  case body =>
    rintro l pre y U hll ⟨g2, g3, hle, hE⟩ hok
    obtain ⟨hlt, hbk⟩ := next_of hok
    have y0 := cell_of g2 0
    have y6 := cell_of (hE.keep em (by rintro (e | e); exact d5 e; exact c5 e)) 0
    simp at y0 y6
    by_cases hm : (pre.length : Int) = mo
    · subst hm
      have Hfin : Hid (KeepsFrom W.heap.size U U) := KeepsFrom.refl _ _
      clear HQ
      gi_wp2
      exact ⟨Hfin.out, rfl, g2, g3, hE⟩
    · have hmb : ((pre.length : Int) == mo) = false := beq_eq_false_iff_ne.2 hm
      have g0 := hE.keep e0 (by rintro (e | e); exact d1 e; exact c1 e)
      have hRU := q2.keep hE (fun k hk => hfX k ((q4 _).2 (.inr hk)))
      obtain ⟨_, bf', bz', p, cap, hRA, _, hfr, _, _, hfp⟩ := hRU
      obtain ⟨bb, c, f, rfl, hbb, hc0, hc1⟩ := hRA.blocks _ hlt
      rw [hbk] at hc0 hc1
      have hcap := hRA.le
      have nbb : bb ≠ okb := fun e => p5 ((q4 _).2 (.inr (by rw [← e]; exact hfp (fun e => by rw [e] at hlt; cases hlt) ⟨bb, 0, none⟩ rfl)))
      have nr : r ≠ okb := fun e => p5 ((q4 _).2 (.inr (by rw [← e]; exact hfr)))
      have y1 := cell_of g0 1
      have y2 := cell_of hRA.hd 4
      have y3 : U.cell? ⟨bb, pre.length * 2, none⟩ = some (.int .i64 y.1) := by rw [cell_of hbb]; exact hc0
      have y4 : U.cell? ⟨bb, pre.length * 2 + 1, none⟩ = some (.int .i64 y.2) := by rw [cell_of hbb]; exact hc1
      have y5 : U.drew.frozen? ⟨okb, 0, none⟩ = false := frozen_of (w := U.drew) g3 0
      have y7 := cell_of g3 0
      simp at y1 y2 y7
      have u0 := lt_of_heap g2
      have u1 := lt_of_heap g0
      have u2 := lt_of_heap hRA.hd
      have u3 := lt_of_heap hbb
      have hcc : ∀ (w' : World) (b o : Nat), OkS okb U w' → b < U.heap.size → b ≠ okb → w'.cell? ⟨b, o, none⟩ = U.cell? ⟨b, o, none⟩ := fun w' b o hE hl hn => by
        unfold World.cell?
        simp only [hE.1.block b hl hn]
      have k1 : ∀ (w' : World) (o : Nat), OkS okb U w' → w'.cell? ⟨nb, o, none⟩ = U.cell? ⟨nb, o, none⟩ := fun w' o h => hcc w' _ o h u0 (Ne.symm c6)
      have k2 : ∀ (w' : World) (o : Nat), OkS okb U w' → w'.cell? ⟨pb, o, none⟩ = U.cell? ⟨pb, o, none⟩ := fun w' o h => hcc w' _ o h u1 c1
      have k3 : ∀ (w' : World) (o : Nat), OkS okb U w' → w'.cell? ⟨r, o, none⟩ = U.cell? ⟨r, o, none⟩ := fun w' o h => hcc w' _ o h u2 nr
      have k4 : ∀ (w' : World) (o : Nat), OkS okb U w' → w'.cell? ⟨bb, o, none⟩ = U.cell? ⟨bb, o, none⟩ := fun w' o h => hcc w' _ o h u3 nbb
      have kok : ∀ w' : World, OkS okb U w' → w'.cell? ⟨okb, 0, none⟩ = some (.bool true) := fun w' h => h.2
      have hlt' : (pre.length : Int) < (S.blocks.length : Int) := by omega
      have hEd : Ext none1 U U.drew := (Ext.refl _ _).drew
      have hOk : OkS okb U U.drew := ⟨(Ext.refl _ _).drew, y7⟩
      have Hset : Hid ((U.drew.setCell ⟨okb, 0, none⟩ (.bool true)).cell? ⟨okb, 0, none⟩ = some (.bool true)) := by show _ = _; rw [cell_of (heap_set (w := U.drew) g3 0 (.bool true))]; rfl
      clear hcc hRA hbb hc0 hc1 hok HQ hP y7
      gi_wp2_with fail
      refine wpIn_region_round (S := OkS okb U) (by kernel_rfl) (by kernel_rfl) (by rintro ⟨_, _, hh⟩; exact hh) hOk (fun hHeld => ?_)
      refine take_dst 0 53 (v := ?_) rfl (by kernel_rfl) (by kernel_rfl) (by kernel_rfl) rfl (fun _ _ _ h => h) (Or.inl ⟨by rfl, ?_⟩) (by assumption) ?_
      rotate_left
      · intro wx hSw
        first | (go_simp; done) | (go_simp; with_reducible rfl)
      simp only [Act.put, List.setIfInBounds_toArray, List.set_cons_zero, List.set_cons_succ]
      refine take_dst 1 54 (v := .bool true) rfl (by kernel_rfl) (by kernel_rfl) (by kernel_rfl) rfl (fun _ _ _ h => h) (Or.inl ⟨by rfl, ?_⟩) (by assumption) ?_
      · intro wx hSw
        first | (go_simp; done) | (go_simp; simp; done) | (go_simp; simp; omega)
      simp only [Act.put, List.setIfInBounds_toArray, List.set_cons_zero, List.set_cons_succ]
      refine take_dst 2 55 (v := ?_) rfl (by kernel_rfl) (by kernel_rfl) (by kernel_rfl) rfl (fun _ _ _ h => h) (Or.inl ⟨by rfl, ?_⟩) (by assumption) ?_
      rotate_left
      · intro wx hSw
        first | (go_simp; done) | (go_simp; with_reducible rfl)
      simp only [Act.put, List.setIfInBounds_toArray, List.set_cons_zero, List.set_cons_succ]
      refine take_dst 3 56 (v := ?_) rfl (by kernel_rfl) (by kernel_rfl) (by kernel_rfl) rfl (fun _ _ _ h => h) (Or.inl ⟨by rfl, ?_⟩) (by assumption) ?_
      rotate_left
      · intro wx hSw
        first | (go_simp; done) | (go_simp; with_reducible rfl)
      simp only [Act.put, List.setIfInBounds_toArray, List.set_cons_zero, List.set_cons_succ]
      refine take_dst 4 57 (v := ?_) rfl (by kernel_rfl) (by kernel_rfl) (by kernel_rfl) rfl (fun _ _ _ h => h) (Or.inl ⟨by rfl, ?_⟩) (by assumption) ?_
      rotate_left
      · intro wx hSw
        first | (go_simp; done) | (go_simp; with_reducible rfl)
      simp only [Act.put, List.setIfInBounds_toArray, List.set_cons_zero, List.set_cons_succ]
      refine take_dst 5 58 (v := ?_) rfl (by kernel_rfl) (by kernel_rfl) (by kernel_rfl) rfl (fun _ _ _ h => h) (Or.inl ⟨by rfl, ?_⟩) (by assumption) ?_
      rotate_left
      · intro wx hSw
        first | (go_simp; done) | (go_simp; with_reducible rfl)
      simp only [Act.put, List.setIfInBounds_toArray, List.set_cons_zero, List.set_cons_succ]
      refine take_dst 6 59 (v := ?_) rfl (by kernel_rfl) (by kernel_rfl) (by kernel_rfl) rfl (fun _ _ _ h => h) (Or.inl ⟨by rfl, ?_⟩) (by assumption) ?_
      rotate_left
      · intro wx hSw
        first | (go_simp; done) | (go_simp; with_reducible rfl)
      simp only [Act.put, List.setIfInBounds_toArray, List.set_cons_zero, List.set_cons_succ]
      refine take_dst 7 60 (v := ?_) rfl (by kernel_rfl) (by kernel_rfl) (by kernel_rfl) rfl (fun _ _ _ h => h) (Or.inl ⟨by rfl, ?_⟩) (by assumption) ?_
      rotate_left
      · intro wx hSw
        first | (go_simp; done) | (go_simp; with_reducible rfl)
      simp only [Act.put, List.setIfInBounds_toArray, List.set_cons_zero, List.set_cons_succ]
      refine take_dst 8 61 (v := ?_) rfl (by kernel_rfl) (by kernel_rfl) (by kernel_rfl) rfl (fun _ _ _ h => h) (Or.inl ⟨by rfl, ?_⟩) (by assumption) ?_
      rotate_left
      · intro wx hSw
        first | (go_simp; done) | (go_simp; with_reducible rfl)
      simp only [Act.put, List.setIfInBounds_toArray, List.set_cons_zero, List.set_cons_succ]
      refine take_dst 9 62 (v := .bool true) rfl (by kernel_rfl) (by kernel_rfl) (by kernel_rfl) rfl (fun _ _ _ h => h) (Or.inl ⟨by rfl, ?_⟩) (by assumption) ?_
      · intro wx hSw
        first | (go_simp; done) | (go_simp; simp; done) | (go_simp; simp; omega)
      simp only [Act.put, List.setIfInBounds_toArray, List.set_cons_zero, List.set_cons_succ]
      refine take_dst 10 63 (v := ?_) rfl (by kernel_rfl) (by kernel_rfl) (by kernel_rfl) rfl (fun _ _ _ h => h) (Or.inl ⟨by rfl, ?_⟩) (by assumption) ?_
      rotate_left
      · intro wx hSw
        first | (go_simp; done) | (go_simp; with_reducible rfl)
      simp only [Act.put, List.setIfInBounds_toArray, List.set_cons_zero, List.set_cons_succ]
      refine take_dst 11 64 (v := ?_) rfl (by kernel_rfl) (by kernel_rfl) (by kernel_rfl) rfl (fun _ _ _ h => h) (Or.inl ⟨by rfl, ?_⟩) (by assumption) ?_
      rotate_left
      · intro wx hSw
        first | (go_simp; done) | (go_simp; with_reducible rfl)
      simp only [Act.put, List.setIfInBounds_toArray, List.set_cons_zero, List.set_cons_succ]
      refine take_dst 12 65 (v := ?_) rfl (by kernel_rfl) (by kernel_rfl) (by kernel_rfl) rfl (fun _ _ _ h => h) (Or.inl ⟨by rfl, ?_⟩) (by assumption) ?_
      rotate_left
      · intro wx hSw
        first | (go_simp; done) | (go_simp; with_reducible rfl)
      simp only [Act.put, List.setIfInBounds_toArray, List.set_cons_zero, List.set_cons_succ]
      refine take_dst 13 66 (v := ?_) rfl (by kernel_rfl) (by kernel_rfl) (by kernel_rfl) rfl (fun _ _ _ h => h) (Or.inl ⟨by rfl, ?_⟩) (by assumption) ?_
      rotate_left
      · intro wx hSw
        first | (go_simp; done) | (go_simp; with_reducible rfl)
      simp only [Act.put, List.setIfInBounds_toArray, List.set_cons_zero, List.set_cons_succ]
      refine take_dst 14 67 (v := ?_) rfl (by kernel_rfl) (by kernel_rfl) (by kernel_rfl) rfl (fun _ _ _ h => h) (Or.inl ⟨by rfl, ?_⟩) (by assumption) ?_
      rotate_left
      · intro wx hSw
        first | (go_simp; done) | (go_simp; with_reducible rfl)
      simp only [Act.put, List.setIfInBounds_toArray, List.set_cons_zero, List.set_cons_succ]
      refine take_dst 15 68 (v := ?_) rfl (by kernel_rfl) (by kernel_rfl) (by kernel_rfl) rfl (fun _ _ _ h => h) (Or.inl ⟨by rfl, ?_⟩) (by assumption) ?_
      rotate_left
      · intro wx hSw
        first | (go_simp; done) | (go_simp; with_reducible rfl)
      simp only [Act.put, List.setIfInBounds_toArray, List.set_cons_zero, List.set_cons_succ]
      refine take_dst 16 69 (v := ?_) rfl (by kernel_rfl) (by kernel_rfl) (by kernel_rfl) rfl (fun _ _ _ h => h) (Or.inl ⟨by rfl, ?_⟩) (by assumption) ?_
      rotate_left
      · intro wx hSw
        first | (go_simp; done) | (go_simp; with_reducible rfl)
      simp only [Act.put, List.setIfInBounds_toArray, List.set_cons_zero, List.set_cons_succ]
      refine take_dst 17 70 (v := ?_) rfl (by kernel_rfl) (by kernel_rfl) (by kernel_rfl) rfl (fun _ _ _ h => h) (Or.inl ⟨by rfl, ?_⟩) (by assumption) ?_
      rotate_left
      · intro wx hSw
        first | (go_simp; done) | (go_simp; with_reducible rfl)
      simp only [Act.put, List.setIfInBounds_toArray, List.set_cons_zero, List.set_cons_succ]
      refine take_dst 18 71 (v := ?_) rfl (by kernel_rfl) (by kernel_rfl) (by kernel_rfl) rfl (fun _ _ _ h => h) (Or.inl ⟨by rfl, ?_⟩) (by assumption) ?_
      rotate_left
      · intro wx hSw
        first | (go_simp; done) | (go_simp; with_reducible rfl)
      simp only [Act.put, List.setIfInBounds_toArray, List.set_cons_zero, List.set_cons_succ]
      refine take_dst 19 72 (v := ?_) rfl (by kernel_rfl) (by kernel_rfl) (by kernel_rfl) rfl (fun _ _ _ h => h) (Or.inl ⟨by rfl, ?_⟩) (by assumption) ?_
      rotate_left
      · intro wx hSw
        first | (go_simp; done) | (go_simp; with_reducible rfl)
      simp only [Act.put, List.setIfInBounds_toArray, List.set_cons_zero, List.set_cons_succ]
      refine take_dst 20 73 (v := ?_) rfl (by kernel_rfl) (by kernel_rfl) (by kernel_rfl) rfl (fun _ _ _ h => h) (Or.inl ⟨by rfl, ?_⟩) (by assumption) ?_
      rotate_left
      · intro wx hSw
        first | (go_simp; done) | (go_simp; with_reducible rfl)
      simp only [Act.put, List.setIfInBounds_toArray, List.set_cons_zero, List.set_cons_succ]
      refine take_dst 21 74 (v := ?_) rfl (by kernel_rfl) (by kernel_rfl) (by kernel_rfl) rfl (fun _ _ _ h => h) (Or.inl ⟨by rfl, ?_⟩) (by assumption) ?_
      rotate_left
      · intro wx hSw
        first | (go_simp; done) | (go_simp; with_reducible rfl)
      simp only [Act.put, List.setIfInBounds_toArray, List.set_cons_zero, List.set_cons_succ]
      refine take_dst 22 75 (v := .bool true) rfl (by kernel_rfl) (by kernel_rfl) (by kernel_rfl) rfl (fun _ _ _ h => h) (Or.inl ⟨by rfl, ?_⟩) (by assumption) ?_
      · intro wx hSw
        first | (go_simp; done) | (go_simp; simp; done) | (go_simp; simp; omega)
      simp only [Act.put, List.setIfInBounds_toArray, List.set_cons_zero, List.set_cons_succ]
      refine take_dst 23 76 (v := ?_) rfl (by kernel_rfl) (by kernel_rfl) (by kernel_rfl) rfl (fun _ _ _ h => h) (Or.inl ⟨by rfl, ?_⟩) (by assumption) ?_
      rotate_left
      · intro wx hSw
        first | (go_simp; done) | (go_simp; with_reducible rfl)
      simp only [Act.put, List.setIfInBounds_toArray, List.set_cons_zero, List.set_cons_succ]
      refine take_dst 24 77 (v := ?_) rfl (by kernel_rfl) (by kernel_rfl) (by kernel_rfl) rfl (fun _ _ _ h => h) (Or.inl ⟨by rfl, ?_⟩) (by assumption) ?_
      rotate_left
      · intro wx hSw
        first | (go_simp; done) | (go_simp; with_reducible rfl)
      simp only [Act.put, List.setIfInBounds_toArray, List.set_cons_zero, List.set_cons_succ]
      refine take_dst 25 78 (v := ?_) rfl (by kernel_rfl) (by kernel_rfl) (by kernel_rfl) rfl (fun _ _ _ h => h) (Or.inl ⟨by rfl, ?_⟩) (by assumption) ?_
      rotate_left
      · intro wx hSw
        first | (go_simp; done) | (go_simp; with_reducible rfl)
      simp only [Act.put, List.setIfInBounds_toArray, List.set_cons_zero, List.set_cons_succ]
      refine take_dst 26 79 (v := ?_) rfl (by kernel_rfl) (by kernel_rfl) (by kernel_rfl) rfl (fun _ _ _ h => h) (Or.inl ⟨by rfl, ?_⟩) (by assumption) ?_
      rotate_left
      · intro wx hSw
        first | (go_simp; done) | (go_simp; with_reducible rfl)
      simp only [Act.put, List.setIfInBounds_toArray, List.set_cons_zero, List.set_cons_succ]
      refine take_dst 27 80 (v := ?_) rfl (by kernel_rfl) (by kernel_rfl) (by kernel_rfl) rfl (fun _ _ _ h => h) (Or.inl ⟨by rfl, ?_⟩) (by assumption) ?_
      rotate_left
      · intro wx hSw
        first | (go_simp; done) | (go_simp; with_reducible rfl)
      simp only [Act.put, List.setIfInBounds_toArray, List.set_cons_zero, List.set_cons_succ]
      refine take_dst 28 81 (v := ?_) rfl (by kernel_rfl) (by kernel_rfl) (by kernel_rfl) rfl (fun _ _ _ h => h) (Or.inl ⟨by rfl, ?_⟩) (by assumption) ?_
      rotate_left
      · intro wx hSw
        first | (go_simp; done) | (go_simp; with_reducible rfl)
      simp only [Act.put, List.setIfInBounds_toArray, List.set_cons_zero, List.set_cons_succ]
      refine take_dst 29 82 (v := ?_) rfl (by kernel_rfl) (by kernel_rfl) (by kernel_rfl) rfl (fun _ _ _ h => h) (Or.inl ⟨by rfl, ?_⟩) (by assumption) ?_
      rotate_left
      · intro wx hSw
        first | (go_simp; done) | (go_simp; with_reducible rfl)
      simp only [Act.put, List.setIfInBounds_toArray, List.set_cons_zero, List.set_cons_succ]
      refine take_dst 30 83 (v := ?_) rfl (by kernel_rfl) (by kernel_rfl) (by kernel_rfl) rfl (fun _ _ _ h => h) (Or.inl ⟨by rfl, ?_⟩) (by assumption) ?_
      rotate_left
      · intro wx hSw
        first | (go_simp; done) | (go_simp; with_reducible rfl)
      simp only [Act.put, List.setIfInBounds_toArray, List.set_cons_zero, List.set_cons_succ]
      refine take_dst 31 84 (v := ?_) rfl (by kernel_rfl) (by kernel_rfl) (by kernel_rfl) rfl (fun _ _ _ h => h) (Or.inl ⟨by rfl, ?_⟩) (by assumption) ?_
      rotate_left
      · intro wx hSw
        first | (go_simp; done) | (go_simp; with_reducible rfl)
      simp only [Act.put, List.setIfInBounds_toArray, List.set_cons_zero, List.set_cons_succ]
      refine take_dst 32 85 (v := ?_) rfl (by kernel_rfl) (by kernel_rfl) (by kernel_rfl) rfl (fun _ _ _ h => h) (Or.inl ⟨by rfl, ?_⟩) (by assumption) ?_
      rotate_left
      · intro wx hSw
        first | (go_simp; done) | (go_simp; with_reducible rfl)
      simp only [Act.put, List.setIfInBounds_toArray, List.set_cons_zero, List.set_cons_succ]
      refine take_dst 33 86 (v := ?_) rfl (by kernel_rfl) (by kernel_rfl) (by kernel_rfl) rfl (fun _ _ _ h => h) (Or.inl ⟨by rfl, ?_⟩) (by assumption) ?_
      rotate_left
      · intro wx hSw
        first | (go_simp; done) | (go_simp; with_reducible rfl)
      simp only [Act.put, List.setIfInBounds_toArray, List.set_cons_zero, List.set_cons_succ]
      refine take_dst 34 87 (v := ?_) rfl (by kernel_rfl) (by kernel_rfl) (by kernel_rfl) rfl (fun _ _ _ h => h) (Or.inl ⟨by rfl, ?_⟩) (by assumption) ?_
      rotate_left
      · intro wx hSw
        first | (go_simp; done) | (go_simp; with_reducible rfl)
      simp only [Act.put, List.setIfInBounds_toArray, List.set_cons_zero, List.set_cons_succ]
      refine take_dst 35 88 (v := .bool true) rfl (by kernel_rfl) (by kernel_rfl) (by kernel_rfl) rfl (fun _ _ _ h => h) (Or.inl ⟨by rfl, ?_⟩) (by assumption) ?_
      · intro wx hSw
        first | (go_simp; done) | (go_simp; simp; done) | (go_simp; simp; omega)
      simp only [Act.put, List.setIfInBounds_toArray, List.set_cons_zero, List.set_cons_succ]
      refine take_dst 36 89 (v := ?_) rfl (by kernel_rfl) (by kernel_rfl) (by kernel_rfl) rfl (fun _ _ _ h => h) (Or.inl ⟨by rfl, ?_⟩) (by assumption) ?_
      rotate_left
      · intro wx hSw
        first | (go_simp; done) | (go_simp; with_reducible rfl)
      simp only [Act.put, List.setIfInBounds_toArray, List.set_cons_zero, List.set_cons_succ]
      refine wpAnyH_ready (rs := [37]) (by kernel_rfl) (by simp) ?_
      refine AllReadyH.cons (o := { dst := none, op := Op.store 4 (Operand.tmp 9) (Operand.tmp 89), type := 0, pos := "law.go:101", after := #[{ on := 36, ground := Ground.data }, { on := 24, ground := Ground.chain }, { on := 0, ground := Ground.phase }, { on := 1, ground := Ground.phase }, { on := 2, ground := Ground.phase }, { on := 3, ground := Ground.phase }, { on := 4, ground := Ground.phase }, { on := 5, ground := Ground.phase }, { on := 6, ground := Ground.phase }, { on := 7, ground := Ground.phase }, { on := 8, ground := Ground.phase }, { on := 9, ground := Ground.phase }, { on := 10, ground := Ground.phase }, { on := 11, ground := Ground.phase }, { on := 12, ground := Ground.phase }, { on := 13, ground := Ground.phase }, { on := 14, ground := Ground.phase }, { on := 15, ground := Ground.phase }, { on := 16, ground := Ground.phase }, { on := 17, ground := Ground.phase }, { on := 18, ground := Ground.phase }, { on := 19, ground := Ground.phase }, { on := 20, ground := Ground.phase }, { on := 21, ground := Ground.phase }, { on := 22, ground := Ground.phase }, { on := 23, ground := Ground.phase }, { on := 24, ground := Ground.phase }, { on := 25, ground := Ground.phase }, { on := 26, ground := Ground.phase }, { on := 27, ground := Ground.phase }, { on := 28, ground := Ground.phase }, { on := 29, ground := Ground.phase }, { on := 30, ground := Ground.phase }, { on := 31, ground := Ground.phase }, { on := 32, ground := Ground.phase }, { on := 33, ground := Ground.phase }, { on := 34, ground := Ground.phase }, { on := 35, ground := Ground.phase }, { on := 36, ground := Ground.phase }], guard := none }) rfl (fun K hK => ?_) ?_
      · go_simp
        refine hK.out _ _ ⟨hHeld.1.setCell ⟨okb, 0, none⟩ (.inl rfl) _, Hset.out⟩ (fun hHeld => ?_)
        clear hK K
        try simp only [Act.put, List.setIfInBounds_toArray, List.set_cons_zero, List.set_cons_succ]
        refine wpAnyH_done (by kernel_rfl) ?_ _
        clear hHeld k1 k2 k3 k4 kok y0 y1 y2 y3 y4 y5 y6
        have v2 : ((U.setCell ⟨okb, 0, none⟩ (.bool true)).drew).heap[nb]? = some (.cells #[.int .i64 (pre.length : Int)] 3 (0, 0)) := (heap_set_ne (w := U) (Ne.symm c6) _ _).trans g2
        have v3 : ((U.setCell ⟨okb, 0, none⟩ (.bool true)).drew).heap[okb]? = some (.cells #[.bool true] 4 (0, 0)) := heap_set (w := U) g3 0 (.bool true)
        have hEV : Ext (one okb) U ((U.setCell ⟨okb, 0, none⟩ (.bool true)).drew) := ((Ext.refl (one okb) U).setCell ⟨okb, 0, none⟩ (.inl rfl) _).drew
        have hKV : KeepsFrom W.heap.size U ((U.setCell ⟨okb, 0, none⟩ (.bool true)).drew) := KeepsFrom.trans ((KeepsOthers.setCell U ⟨okb, 0, none⟩ (.bool true)).from _) ⟨(Ext.refl none1 _).drew.size, fun k o _ ho _ => (Ext.refl none1 _).drew.keep ho (fun x => x)⟩
        generalize (U.setCell ⟨okb, 0, none⟩ (.bool true)).drew = V at *
        have v4 := cell_of v2 0
        have v5 := frozen_of v2 0
        simp at v4
        have v6 := heap_set v2 0 (.int .i64 ((pre.length : Int) + 1))
        have v7 : (V.setCell ⟨nb, 0, none⟩ (.int .i64 ((pre.length : Int) + 1))).heap[okb]? = some (.cells #[.bool true] 4 (0, 0)) := (heap_set_ne c6 _ _).trans v3
        have v8 := cell_of v7 0
        simp at v8
        gi_wp2
        refine ⟨hKV.trans ((KeepsOthers.setCell _ _ _).from _), (Stay.of_ext hEV (fun k hk e => hk.1 (.inr e))).setCell ⟨nb, 0, none⟩ (fun hh => hh.1 (.inl rfl)) _, ?_, v7, ?_, (hE.trans (hEV.mono (fun _ _ h => .inr h))).setCell ⟨nb, 0, none⟩ (.inl (.inl rfl)) _⟩
        · rw [v6]; simp
        · simp; omega
      exact AllReadyH.nil
  case done =>
    rintro D ys U hD rfl ⟨g2, g3, hle, hE⟩ hKd
    have hdD : ∀ W', Ext (fun k => fp k ∨ k = nb ∨ k = rb) U W' → W'.heap[D]? = some (.deferred (some [])) := fun W' h => h.keep hKd (by
      rintro (e | e | e)
      · have := hl _ e; omega
      · omega
      · omega)
    have hEf : ∀ W', Ext (fun k => fp k ∨ k = nb ∨ k = rb) U W' → Ext (fun k => fp k ∨ k = nb ∨ k = rb ∨ k = okb) W W' := fun W' h =>
      (hE.mono (fun k _ e => e.elim (fun e => .inr (.inl e)) (fun e => .inr (.inr (.inr e))))).trans (h.mono (fun k _ e => e.elim .inl (fun e => e.elim (fun e => .inr (.inl e)) (fun e => .inr (.inr (.inl e))))))
    gi_wp2_with fail
    exact told_t9 ct hct n hn _ U x r m pb ob rb nb bm fp S _ kd on a b hh nn ss (hp.keep face hE hfX h0X) (hE.keep hx hxX) (hE.keep e0 (by rintro (e | e); exact d1 e; exact c1 e)) (hE.keep eo (by rintro (e | e); exact d4 e; exact c2 e)) (hE.keep e1 (by rintro (e | e); exact d2 e; exact c3 e)) g2 (hE.keep e3 (by rintro (e | e); exact d3 e; exact c4 e)) d1 d2 d3 d8 p0 p1 p2 p3 p4 z1 z2 a0 a1 okb mb mo g3 (hE.keep em (by rintro (e | e); exact d5 e; exact c5 e)) (.inr rfl) _ _ _ _ _ _ _ _ _ _ _ _ _ _ _ _ _ _ _ _ _ _ _ _ _ _ _ _ _ _ _ _ _ _ _ _ _ _ _ _ _ _ _ _ _ _ _ _ _ _ _ _ _ _ _ _ _ _ _ _ _ _ _ _ _ _ _ _ _ _ _ _ _ _ _ _ _ _ _ _ _ _ _ _ _ _ _ _ _ _ _ _ _ _ _ _ _ _ _ _ _ _ _ _ _ _ _ _ _ _ _ _ _ _ _ _ _ _ _ _ _ _ _ _ _ _ _ _ _ _ _ _ _ _ _ _ _ _ _ _ _ _ _ _ _ _ _ _ _ _ _ _ _ _ _ _ _ _ _ _ _ _ _ _ _ _ _ _ _ _ _ _ _ _ _ _ _ _ _ _ _ _ _ _ _ _ _ _ (fun D' tm W' S' fp' q1 q0 q2 q3 q4 q5 q6 q7 => ⟨rfl, HQ.out D D' tm W' S' fp' hD (by have := hE.size; omega) (by have := lt_of_heap hKd; omega) (fun h => (q6 _ h).elim (fun h => by have := hl _ h; omega) (fun h => by have := lt_of_heap hKd; omega)) q0 q2 (hdD W' q7) q3 q4 q5 (fun k hk => (q6 k hk).imp id (fun h => by have := hE.size; omega)) (hEf W' q7)⟩)
  case stop =>
    rintro D c pre U hD _ ⟨rfl, g2, g3, hE⟩ hKd
    have hdD : ∀ W', Ext (fun k => fp k ∨ k = nb ∨ k = rb) U W' → W'.heap[D]? = some (.deferred (some [])) := fun W' h => h.keep hKd (by
      rintro (e | e | e)
      · have := hl _ e; omega
      · omega
      · omega)
    have hEf : ∀ W', Ext (fun k => fp k ∨ k = nb ∨ k = rb) U W' → Ext (fun k => fp k ∨ k = nb ∨ k = rb ∨ k = okb) W W' := fun W' h =>
      (hE.mono (fun k _ e => e.elim (fun e => .inr (.inl e)) (fun e => .inr (.inr (.inr e))))).trans (h.mono (fun k _ e => e.elim .inl (fun e => e.elim (fun e => .inr (.inl e)) (fun e => .inr (.inr (.inl e))))))
    gi_wp2_with fail
    exact told_t9 ct hct n hn _ U x r m pb ob rb nb bm fp S _ kd on a b hh nn ss (hp.keep face hE hfX h0X) (hE.keep hx hxX) (hE.keep e0 (by rintro (e | e); exact d1 e; exact c1 e)) (hE.keep eo (by rintro (e | e); exact d4 e; exact c2 e)) (hE.keep e1 (by rintro (e | e); exact d2 e; exact c3 e)) g2 (hE.keep e3 (by rintro (e | e); exact d3 e; exact c4 e)) d1 d2 d3 d8 p0 p1 p2 p3 p4 z1 z2 a0 a1 okb mb mo g3 (hE.keep em (by rintro (e | e); exact d5 e; exact c5 e)) (.inl rfl) _ _ _ _ _ _ _ _ _ _ _ _ _ _ _ _ _ _ _ _ _ _ _ _ _ _ _ _ _ _ _ _ _ _ _ _ _ _ _ _ _ _ _ _ _ _ _ _ _ _ _ _ _ _ _ _ _ _ _ _ _ _ _ _ _ _ _ _ _ _ _ _ _ _ _ _ _ _ _ _ _ _ _ _ _ _ _ _ _ _ _ _ _ _ _ _ _ _ _ _ _ _ _ _ _ _ _ _ _ _ _ _ _ _ _ _ _ _ _ _ _ _ _ _ _ _ _ _ _ _ _ _ _ _ _ _ _ _ _ _ _ _ _ _ _ _ _ _ _ _ _ _ _ _ _ _ _ _ _ _ _ _ _ _ _ _ _ _ _ _ _ _ _ _ _ _ _ _ _ _ _ _ _ _ _ _ _ _ (fun D' tm W' S' fp' q1 q0 q2 q3 q4 q5 q6 q7 => ⟨rfl, HQ.out D D' tm W' S' fp' hD (by have := hE.size; omega) (by have := lt_of_heap hKd; omega) (fun h => (q6 _ h).elim (fun h => by have := hl _ h; omega) (fun h => by have := lt_of_heap hKd; omega)) q0 q2 (hdD W' q7) q3 q4 q5 (fun k hk => (q6 k hk).imp id (fun h => by have := hE.size; omega)) (hEf W' q7)⟩)
end Go.Proofs.YtbagfepdmmfegaaDoor

/- told, whole. -/
namespace Go.Proofs.YtbagfepdmmfegaaDoor
open Go.RowKit Go.Shelf
attribute [local go_sem] Oper.semAt_some

theorem told_split : ∃ d, IsT8 d ∧ Tryd.f72.body = some ((cFst (Tryd.f72.body.getD .skip)).seq ((cFst (cSnd (Tryd.f72.body.getD .skip))).seq ((cFst (cSnd (cSnd (Tryd.f72.body.getD .skip)))).seq ((cFst (cSnd (cSnd (cSnd (Tryd.f72.body.getD .skip))))).seq ((cFst (cSnd (cSnd (cSnd (cSnd (Tryd.f72.body.getD .skip)))))).seq ((cFst (cSnd (cSnd (cSnd (cSnd (cSnd (Tryd.f72.body.getD .skip))))))).seq ((cFst (cSnd (cSnd (cSnd (cSnd (cSnd (cSnd (Tryd.f72.body.getD .skip)))))))).seq ((cFst (cSnd (cSnd (cSnd (cSnd (cSnd (cSnd (cSnd (Tryd.f72.body.getD .skip))))))))).seq (d))))))))) := ⟨_, rfl, by kernel_rfl⟩

theorem fun_nil : ∀ (lb : Array Value) (w : World), Sem.run Tryd.prog (binOp BinOp.eql 56 (Value.func (Fn.func 61) #[] lb) Value.nilFunc) w = .ok (.bool false) w := fun lb w => by
  have h := Tryd.underlying56
  obtain ⟨d, hd⟩ : ∃ d, Op.maxDepth = d + 1 := ⟨9999, rfl⟩
  have he : Sem.run Tryd.prog (Op.equal 56 (Value.func (Fn.func 61) #[] lb) Value.nilFunc) w = .ok false w := by
    unfold Op.equal
    rw [hd]
    simp only [Op.equalIn, Sem.run_bind, run_underlying h, Result.andThen_ok]
    rfl
  simp only [binOp, Sem.run_bind, he, Result.andThen_ok]
  rfl

theorem results_told (tmps : Array Value) (w : World) (g : Nat) (hp : tmps.getD 4 undef = .pointer (some ⟨g, 0, none⟩)) (hg : w.heap[g]? = some (.cells #[.bool true] 4 (0, 0))) :
    (results Tryd.f72 tmps).run Tryd.prog w = .ok (.bool true) w := by
  have hp' : tmps[4]?.getD undef = .pointer (some ⟨g, 0, none⟩) := by simpa using hp
  have hc := cell_of hg 0
  simp at hc
  simp [results, Tryd.results72, hp', go_sem, hc]

theorem live_face (w : World) (t m bf bz : Nat) (S : Ti.St) (h : TiAt w t m bf bz S) :
    Calls Tryd.prog 25 #[.pointer (some ⟨t, 0, none⟩)] w fun e w' =>
      e = .returned (.func (.func 61) #[] #[.pointer (some ⟨w.heap.size, 0, none⟩)]) ∧ w' = w.alloc (.cells #[.pointer (some ⟨m, 0, none⟩)] 69) := by
  have H : Hid _ := inside_any w t m bf bz S h
  go_enter Tryd.func25, Tryd.ntmps25
  go_wp2_with fail
  refine Calls.mono H.out ?_
  rintro e w' ⟨rfl, rfl⟩
  go_wp2_with fail
  refine (liveMk_any _ _).mono ?_
  rintro e w' ⟨rfl, rfl⟩
  go_wp2_with fail
  go_ret
  exact ⟨rfl, rfl⟩

set_option maxRecDepth 100000 in
set_option maxHeartbeats 40000000 in
theorem told_in (n : Nat) (hn : 13 ≤ n) (W : World) (x r : Nat) (fp : Nat → Prop) (S : Ti.St) (hp : PairAt PrIs W x r fp S) (kd on a b hh nn ss : Int) (a0 : -9223372036854775808 ≤ a) (a1 : a ≤ 9223372036854775807) :
    CallsIn Fence.wide n Tryd.prog 72 #[.agg #[.pointer (some ⟨x, 0, none⟩), .pointer (some ⟨r, 0, none⟩)], .agg #[.int .i64 kd, .int .i64 on, .int .i64 a, .int .i64 b, .int .i64 hh, .int .i64 nn, .int .i64 ss]] W fun e W' =>
      e = .returned (.bool true) ∧ ∃ S', PPost PrIs W W' x r fp S' := by
  have h1 : 1 ≤ n := by omega
  obtain ⟨⟨fx, fr, q1, q2, q3, q4⟩, hl, hpos⟩ := hp
  have hI := q2.inv
  have q1' := q1
  obtain ⟨m, bf, bz, v, ht, hv, f1, f2, f3, f4, f5⟩ := q1'
  have hw0 : 0 < W.heap.size := Nat.lt_of_le_of_lt (Nat.zero_le _) q2.lt.1
  obtain ⟨ct, hct, hbd⟩ := told_split
  refine callsIn_of_wp_marks Tryd.func72 hbd trivial ?_ rfl
  clear hbd
  obtain ⟨QQ, hQQ⟩ : ∃ QQ : Act → World → Prop, QQ = fun a w => bodyPostM Fence.wide n Tryd.prog Tryd.f72 (fun e W' => e = .returned (.bool true) ∧ ∃ S', PPost PrIs W W' x r fp S') .ret a w := ⟨_, rfl⟩
  refine wpIn_mono (Q := fun e a w => e = .ret ∧ QQ a w) ?_ (fun e a w h => by obtain ⟨rfl, h⟩ := h; rw [hQQ] at h; exact h)
  have HQQ : Hid (∀ a w, bodyPostM Fence.wide n Tryd.prog Tryd.f72 (fun e W' => e = .returned (.bool true) ∧ ∃ S', PPost PrIs W W' x r fp S') .ret a w → QQ a w) := fun a w h => by rw [hQQ]; exact h
  clear hQQ
  simp only [Tryd.ntmps72, List.size_toArray, List.length_cons, List.length_nil, Nat.reduceAdd, Nat.reduceSub, Array.replicate_succ, Array.replicate_zero, List.push_toArray, List.append_toArray, List.nil_append, List.cons_append]
  simp only [Tryd.f72, Option.getD_some, cSnd, cFst]
  gi_wp2_with fail
  have hb3 := heap3 W (.cells #[.pointer (some ⟨x, 0, none⟩), .pointer (some ⟨r, 0, none⟩)] 85) (.cells #[.int .i64 kd, .int .i64 on, .int .i64 a, .int .i64 b, .int .i64 hh, .int .i64 nn, .int .i64 ss] 65) (.cells #[.bool false] 4)
  have hE0 : Ext none1 W (((W.alloc (.cells #[.pointer (some ⟨x, 0, none⟩), .pointer (some ⟨r, 0, none⟩)] 85)).alloc (.cells #[.int .i64 kd, .int .i64 on, .int .i64 a, .int .i64 b, .int .i64 hh, .int .i64 nn, .int .i64 ss] 65)).alloc (.cells #[.bool false] 4)) := (((Ext.refl _ _).alloc _).alloc _).alloc _
  have hs0 : (((W.alloc (.cells #[.pointer (some ⟨x, 0, none⟩), .pointer (some ⟨r, 0, none⟩)] 85)).alloc (.cells #[.int .i64 kd, .int .i64 on, .int .i64 a, .int .i64 b, .int .i64 hh, .int .i64 nn, .int .i64 ss] 65)).alloc (.cells #[.bool false] 4)).heap.size = W.heap.size + 3 := by simp
  generalize (((W.alloc (.cells #[.pointer (some ⟨x, 0, none⟩), .pointer (some ⟨r, 0, none⟩)] 85)).alloc (.cells #[.int .i64 kd, .int .i64 on, .int .i64 a, .int .i64 b, .int .i64 hh, .int .i64 nn, .int .i64 ss] 65)).alloc (.cells #[.bool false] 4)) = W0 at *
  refine ⟨trivial, Wide.wide.calls ((live_face W0 x m bf bz S (ht.keep0 hE0)).mono ?_)⟩
  rintro e w' ⟨rfl, rfl⟩
  rw [hs0]
  have hbm := heap_alloc_new W0 (.cells #[.pointer (some ⟨m, 0, none⟩)] 69)
  rw [hs0] at hbm
  have hE1 : Ext none1 W0 (W0.alloc (.cells #[.pointer (some ⟨m, 0, none⟩)] 69)) := (Ext.refl _ _).alloc _
  have hs1 : (W0.alloc (.cells #[.pointer (some ⟨m, 0, none⟩)] 69)).heap.size = W.heap.size + 4 := by simp [hs0]
  generalize W0.alloc (.cells #[.pointer (some ⟨m, 0, none⟩)] 69) = W1 at *
  have hE01 := hE0.trans hE1
  have b0 := hE1.keep hb3.1 (fun x => x)
  have b1 := hE1.keep hb3.2.1 (fun x => x)
  have b2 := hE1.keep hb3.2.2 (fun x => x)
  have y0 := cell_of b0 0
  have y1 := cell_of b1 3
  simp at y0 y1
  have hnil := fun_nil
  gi_wp2_with fail
  clear hnil
  refine ⟨trivial, Wide.wide.calls ((free_faceT W1 x fx S b (q1.keep hE01 (fun _ _ x => x) (fun x => x)) hI).mono ?_)⟩
  rintro e W2 ⟨rfl, hx2, hk2⟩
  have nfx : ∀ k, W.heap.size ≤ k → ¬ fx k := fun k hk h => by have := hl _ ((q4 _).2 (.inl h)); omega
  have nfr : ∀ k, W.heap.size ≤ k → ¬ fr k := fun k hk h => by have := hl _ ((q4 _).2 (.inr h)); omega
  have b0 := hx2.2.keep b0 (nfx _ (by omega))
  have b1 := hx2.2.keep b1 (nfx _ (by omega))
  have b2 := hx2.2.keep b2 (nfx _ (by omega))
  have hbm := hx2.2.keep hbm (nfx _ (by omega))
  have y0 := cell_of b0 1
  have y1 := cell_of b1 3
  simp at y0 y1
  have hr2 := (q2.keep hE01 (fun _ _ x => x)).keep hx2.2 (fun k hk hh => q3 k hh hk)
  gi_wp2_with fail
  refine ⟨trivial, Wide.wide.calls ((refFree_is W2 r fr S b hr2).mono ?_)⟩
  rintro e W3 ⟨rfl, hr3⟩
  have hE23 : Ext fr W2 W3 := let ⟨_, _, e, _⟩ := hr3; e
  have hxm : XM W1 x m := hE01.keep ht.hd (fun x => x)
  have hxm : XM W3 x m := hE23.keep (hk2 _ hxm) (fun h => q3 _ f1 h)
  have b0 := hE23.keep b0 (nfr _ (by omega))
  have b1 := hE23.keep b1 (nfr _ (by omega))
  have b2 := hE23.keep b2 (nfr _ (by omega))
  have hbm := hE23.keep hbm (nfr _ (by omega))
  have hsz3 : W.heap.size + 4 ≤ W3.heap.size := by have := hx2.2.size; have := hE23.size; omega
  obtain ⟨fp3, hp3, hE13, hn3⟩ := PPost.of face q3 q4 (fun k hk => Nat.lt_of_lt_of_le (hl k hk) hE01.size) (by omega) hpos hx2.x hr3
  have hEW3 : Ext fp W W3 := (hE01.mono (fun _ _ x => x.elim)).trans hE13
  generalize (S.freeAt b).2 = S3 at *
  generalize (S.freeAt b).1 = z at *
  clear hr3 hx2 hk2 hr2 y0 y1 hE23 hb3
  gi_wp2_with fail
  refine ⟨trivial, Wide.wide.calls ((num_any _ _).mono ?_)⟩
  rintro e w' ⟨rfl, rfl⟩
  gi_wp2_with fail
  have hb2 := heap2 W3 (.cells #[.int .i64 0] 3) (.cells #[.bool true] 4)
  have hE5 : Ext none1 W3 ((W3.alloc (.cells #[.int .i64 0] 3)).alloc (.cells #[.bool true] 4)) := ((Ext.refl _ _).alloc _).alloc _
  have hs5 : ((W3.alloc (.cells #[.int .i64 0] 3)).alloc (.cells #[.bool true] 4)).heap.size = W3.heap.size + 2 := by simp
  generalize ((W3.alloc (.cells #[.int .i64 0] 3)).alloc (.cells #[.bool true] 4)) = W5 at *
  have b0 := hE5.keep b0 (fun x => x)
  have b1 := hE5.keep b1 (fun x => x)
  have b2 := hE5.keep b2 (fun x => x)
  have hbm := hE5.keep hbm (fun x => x)
  have hxm : XM W5 x m := hE5.keep hxm (fun x => x)
  have hl3 := hp3.lt
  have hp5 := hp3.keep face hE5 (fun _ _ x => x) (fun x => x)
  have hp5' := hp5
  obtain ⟨⟨gx, gr, _, g2, _, _⟩, _, _⟩ := hp5'
  have hI3 := g2.inv
  obtain ⟨_, bf', bz', p, cap, hRA, _⟩ := g2
  have hfew := blocks_few S3 hI3.toInv0
  have y0 := cell_of b0 1
  have y1 := cell_of b1 2
  have y2 := cell_of hRA.hd 4
  simp at y0 y1 y2
  have l1 := lt_of_heap b0
  have l2 := lt_of_heap b1
  have l3 := lt_of_heap hRA.hd
  have hcc : ∀ (w' : World) (b o : Nat), Ext none1 W5 w' → b < W5.heap.size → w'.cell? ⟨b, o, none⟩ = W5.cell? ⟨b, o, none⟩ := fun w' b o hE hl => by
    unfold World.cell?
    simp only [hE.block b hl (fun x => x)]
  have k1 : ∀ (w' : World) (o : Nat), Ext none1 W5 w' → w'.cell? ⟨W.heap.size, o, none⟩ = W5.cell? ⟨W.heap.size, o, none⟩ := fun w' o h => hcc w' _ o h l1
  have k2 : ∀ (w' : World) (o : Nat), Ext none1 W5 w' → w'.cell? ⟨W.heap.size + 1, o, none⟩ = W5.cell? ⟨W.heap.size + 1, o, none⟩ := fun w' o h => hcc w' _ o h l2
  have k3 : ∀ (w' : World) (o : Nat), Ext none1 W5 w' → w'.cell? ⟨r, o, none⟩ = W5.cell? ⟨r, o, none⟩ := fun w' o h => hcc w' _ o h l3
  have hmo := pickI_bd a ((S3.blocks.length : Int) + 1) (by omega)
  have Hpk : Hid (∀ w, Calls Tryd.prog 46 #[.int .i64 a, .int .i64 ((S3.blocks.length : Int) + 1)] w fun e w' => e = .returned (.int .i64 (pickI a ((S3.blocks.length : Int) + 1))) ∧ w = w') := fun w => pick_any a _ w a0 a1 (by omega) (by omega)
  have hwr : IntKind.i64.wrap ((S3.blocks.length : Int) + 1) = (S3.blocks.length : Int) + 1 := by rw [IntKind.wrap_i64]; omega
  generalize pickI a ((S3.blocks.length : Int) + 1) = mo at *
  have nf : ∀ k, W.heap.size ≤ k → k < W1.heap.size ∨ W3.heap.size ≤ k → ¬ fp3 k := fun k hk hk2 h => by
    have := hl3 _ h
    rcases hn3 _ h with h | h
    · have := hl _ h; omega
    · omega
  have hE6 : Ext none1 W5 (W5.alloc (.cells #[.int .i64 mo] 3)).drew := ((Ext.refl _ _).alloc _).drew
  have hm6 : (W5.alloc (.cells #[.int .i64 mo] 3)).drew.heap[W3.heap.size + 2]? = some (.cells #[.int .i64 mo] 3 (0, 0)) := by rw [← hs5]; exact heap_alloc_new W5 _
  have Hfin : Hid (∀ (W6 : World) (D D' : Nat) (tm : Array Value) (W' : World) (S' : Ti.St) (fp' : Nat → Prop), Ext none1 W5 W6 → W6.heap.size ≤ D → W6.heap.size ≤ D' → D ≠ D' → ¬ fp' D → ¬ fp' D' → tm.getD 4 undef = .pointer (some ⟨W.heap.size + 1 + 1, 0, none⟩) → W'.heap[D]? = some (.deferred (some [])) → W'.heap[D']? = some (.deferred (some [])) → W'.heap[W.heap.size + 1 + 1]? = some (.cells #[.bool true] 4 (0, 0)) → PairAt PrIs W' x r fp' S' → (∀ k, fp' k → fp3 k ∨ W6.heap.size ≤ k) → Ext (fun k => fp3 k ∨ k = W3.heap.size ∨ k = W.heap.size + 1 + 1 ∨ k = W3.heap.size + 1) W6 W' →
      bodyPostM Fence.wide n Tryd.prog Tryd.f72 (fun e W' => e = .returned (.bool true) ∧ ∃ S', PPost PrIs W W' x r fp S') .ret { tmps := tm, defers := [{ target := .collected D', args := #[] }, { target := .collected D, args := #[] }] } W') := by
    intro W6 D D' tm W' S' fp' hE6 hD hD' hne hf hf' htm hd hd' hr hpp hnn hEE
    have hs6 := hE6.size
    have g1 : (W'.putObj D' (.deferred none)).heap[D]? = some (.deferred (some [])) := (World.putObj_heap_other hne).trans hd
    have g2 : ((W'.putObj D' (.deferred none)).putObj D (.deferred none)).heap[W.heap.size + 1 + 1]? = some (.cells #[.bool true] 4 (0, 0)) := (World.putObj_heap_other (by omega)).trans ((World.putObj_heap_other (by omega)).trans hr)
    have hEp : Ext (two D D') W' ((W'.putObj D' (.deferred none)).putObj D (.deferred none)) := ⟨rfl, rfl, rfl, by simp, fun k _ hk => (World.putObj_heap_other (fun e => hk (.inl e))).trans (World.putObj_heap_other (fun e => hk (.inr e)))⟩
    have hEall : Ext fp W ((W'.putObj D' (.deferred none)).putObj D (.deferred none)) := by
      refine Ext.trans' (Ext.trans' (Ext.trans' hEW3 (hE5.trans hE6) (fun _ _ x => x.elim)) hEE (fun j hj e => ?_)) hEp (fun j hj e => ?_)
      · rcases e with e | e | e | e
        · rcases hn3 _ e with h | h
          · exact h
          · omega
        · omega
        · omega
        · omega
      · rcases e with e | e
        · have e : j = D := e; omega
        · have e : j = D' := e; omega
    have hlt' := hpp.lt
    have hpp2 : PairAt PrIs ((W'.putObj D' (.deferred none)).putObj D (.deferred none)) x r fp' S' := by
      refine hpp.keep face hEp (fun k hk e => ?_) ?_
      · rcases e with e | e
        · have e : k = D := e
          exact hf (by rw [← e]; exact hk)
        · have e : k = D' := e
          exact hf' (by rw [← e]; exact hk)
      · rintro (e | e)
        · have e : 0 = D := e; omega
        · have e : 0 = D' := e; omega
    refine ⟨by simp, .inl ⟨_, _, rfl, run_takeDeferred hd', ⟨by simp, .inl ⟨_, _, rfl, run_takeDeferred g1, ?_⟩⟩⟩⟩
    refine ⟨_, results_told _ _ _ htm g2, rfl, S', fp', hpp2, hEall, fun k hk => ?_⟩
    rcases hnn k hk with h | h
    · rcases hn3 _ h with h | h
      · exact .inl h
      · exact .inr (by omega)
    · exact .inr (by omega)
  clear hcc hRA
  refine wpIn_region_wideQ (fun w' => Ext none1 W5 w') (by kernel_rfl) (by kernel_rfl) (Ext.refl _ _).drew (fun hHeld => ?_)
  refine take_dst 0 37 (v := ?_) rfl (by kernel_rfl) (by kernel_rfl) (by kernel_rfl) rfl (fun _ _ _ h => absurd (And.left (And.right h)) (fun e => by cases e)) (Or.inl ⟨by rfl, ?_⟩) (by assumption) ?_
  rotate_left
  · intro wx hSw
    first | (go_simp; done) | (go_simp; with_reducible rfl)
  simp only [Act.put, List.setIfInBounds_toArray, List.set_cons_zero, List.set_cons_succ]
  refine take_dst 1 38 (v := ?_) rfl (by kernel_rfl) (by kernel_rfl) (by kernel_rfl) rfl (fun _ _ _ h => absurd (And.left (And.right h)) (fun e => by cases e)) (Or.inl ⟨by rfl, ?_⟩) (by assumption) ?_
  rotate_left
  · intro wx hSw
    first | (go_simp; done) | (go_simp; with_reducible rfl)
  simp only [Act.put, List.setIfInBounds_toArray, List.set_cons_zero, List.set_cons_succ]
  refine take_dst 2 39 (v := ?_) rfl (by kernel_rfl) (by kernel_rfl) (by kernel_rfl) rfl (fun _ _ _ h => absurd (And.left (And.right h)) (fun e => by cases e)) (Or.inl ⟨by rfl, ?_⟩) (by assumption) ?_
  rotate_left
  · intro wx hSw
    first | (go_simp; done) | (go_simp; with_reducible rfl)
  simp only [Act.put, List.setIfInBounds_toArray, List.set_cons_zero, List.set_cons_succ]
  refine take_dst 3 40 (v := ?_) rfl (by kernel_rfl) (by kernel_rfl) (by kernel_rfl) rfl (fun _ _ _ h => absurd (And.left (And.right h)) (fun e => by cases e)) (Or.inl ⟨by rfl, ?_⟩) (by assumption) ?_
  rotate_left
  · intro wx hSw
    first | (go_simp; done) | (go_simp; with_reducible rfl)
  simp only [Act.put, List.setIfInBounds_toArray, List.set_cons_zero, List.set_cons_succ]
  refine take_dst 4 41 (v := ?_) rfl (by kernel_rfl) (by kernel_rfl) (by kernel_rfl) rfl (fun _ _ _ h => absurd (And.left (And.right h)) (fun e => by cases e)) (Or.inl ⟨by rfl, ?_⟩) (by assumption) ?_
  rotate_left
  · intro wx hSw
    first | (go_simp; done) | (go_simp; with_reducible rfl)
  simp only [Act.put, List.setIfInBounds_toArray, List.set_cons_zero, List.set_cons_succ]
  refine take_dst 5 42 (v := ?_) rfl (by kernel_rfl) (by kernel_rfl) (by kernel_rfl) rfl (fun _ _ _ h => absurd (And.left (And.right h)) (fun e => by cases e)) (Or.inl ⟨by rfl, ?_⟩) (by assumption) ?_
  rotate_left
  · intro wx hSw
    first | (go_simp; done) | (go_simp; with_reducible rfl)
  simp only [Act.put, List.setIfInBounds_toArray, List.set_cons_zero, List.set_cons_succ]
  refine take_dst 6 43 (v := ?_) rfl (by kernel_rfl) (by kernel_rfl) (by kernel_rfl) rfl (fun _ _ _ h => absurd (And.left (And.right h)) (fun e => by cases e)) (Or.inl ⟨by rfl, ?_⟩) (by assumption) ?_
  rotate_left
  · intro wx hSw
    first | (go_simp; done) | (go_simp; with_reducible rfl)
  simp only [Act.put, List.setIfInBounds_toArray, List.set_cons_zero, List.set_cons_succ]
  refine take_dst 7 44 (v := ?_) rfl (by kernel_rfl) (by kernel_rfl) (by kernel_rfl) rfl (fun _ _ _ h => absurd (And.left (And.right h)) (fun e => by cases e)) (Or.inl ⟨by rfl, ?_⟩) (by assumption) ?_
  rotate_left
  · intro wx hSw
    first | (go_simp; done) | (go_simp; with_reducible rfl)
  simp only [Act.put, List.setIfInBounds_toArray, List.set_cons_zero, List.set_cons_succ]
  refine take_dst 8 45 (v := ?_) rfl (by kernel_rfl) (by kernel_rfl) (by kernel_rfl) rfl (fun _ _ _ h => absurd (And.left (And.right h)) (fun e => by cases e)) (Or.inl ⟨by rfl, ?_⟩) (by assumption) ?_
  rotate_left
  · intro wx hSw
    first | (go_simp; done) | (go_simp; with_reducible rfl)
  simp only [Act.put, List.setIfInBounds_toArray, List.set_cons_zero, List.set_cons_succ]
  refine wpAnyH_ready (rs := [9, 10]) (by kernel_rfl) (by simp) ?_
  refine AllReadyH.cons (o := { dst := some 46, op := Op.call { callee := Callee.value (Operand.func 46), args := #[Operand.tmp 38, Operand.tmp 45], argTypes := #[3, 3] }, type := 3, pos := "law.go:96", after := #[{ on := 1, ground := Ground.data }, { on := 8, ground := Ground.data }], guard := none }) rfl (fun K hK => ?_) ?_
  · go_simp
    refine Calls.mono (Hpk.out _) ?_
    rintro e w' ⟨rfl, rfl⟩
    refine hK.out _ _ hHeld (fun hHeld => ?_)
    clear hK K
    try simp only [Act.put, List.setIfInBounds_toArray, List.set_cons_zero, List.set_cons_succ]
    refine wpAnyH_ready (rs := [10]) (by kernel_rfl) (by simp) ?_
    refine AllReadyH.cons (o := { dst := some 10, op := Op.alloc 3, type := 0, pos := "law.go:96", after := #[], guard := none }) rfl (fun K hK => ?_) ?_
    · go_simp
      refine hK.out _ _ (hHeld.alloc _) (fun hHeld => ?_)
      clear hK K
      try simp only [Act.put, List.setIfInBounds_toArray, List.set_cons_zero, List.set_cons_succ]
      refine wpAnyH_ready (rs := [11]) (by kernel_rfl) (by simp) ?_
      refine AllReadyH.cons (o := { dst := none, op := Op.store 3 (Operand.tmp 10) (Operand.tmp 46), type := 0, pos := "law.go:96", after := #[{ on := 10, ground := Ground.data }, { on := 9, ground := Ground.data }, { on := 9, ground := Ground.chain }, { on := 0, ground := Ground.phase }, { on := 1, ground := Ground.phase }, { on := 2, ground := Ground.phase }, { on := 3, ground := Ground.phase }, { on := 4, ground := Ground.phase }, { on := 5, ground := Ground.phase }, { on := 6, ground := Ground.phase }, { on := 7, ground := Ground.phase }, { on := 8, ground := Ground.phase }, { on := 9, ground := Ground.phase }, { on := 10, ground := Ground.phase }], guard := none }) rfl (fun K hK => ?_) ?_
      · go_simp
        refine hK.out _ _ ((Ext.refl _ _).drew.alloc _) (fun hHeld => ?_)
        clear hK K
        try simp only [Act.put, List.setIfInBounds_toArray, List.set_cons_zero, List.set_cons_succ]
        refine wpAnyH_done (by kernel_rfl) ?_ _
        refine ⟨fun h => (by cases h), ?_⟩
        clear hHeld
        gi_wp2_with fail
        exact told_t8 ct hct n (by omega) _ _ x r m W.heap.size (W.heap.size + 1) (W.heap.size + 1 + 1) W3.heap.size (W.heap.size + 3) fp3 S3 0 kd on a b hh nn ss (hp5.keep face hE6 (fun _ _ x => x) (fun x => x)) (hE6.keep hxm (fun x => x)) (hE6.keep b0 (fun x => x)) (hE6.keep b1 (fun x => x)) (hE6.keep b2 (fun x => x)) (hE6.keep hb2.1 (fun x => x)) (hE6.keep hbm (fun x => x)) (by omega) (by omega) (by omega) (by omega) (nf _ (by omega) (by omega)) (nf _ (by omega) (by omega)) (nf _ (by omega) (by omega)) (nf _ (by omega) (by omega)) (nf _ (by omega) (by omega)) (by omega) (by omega) a0 a1 (W3.heap.size + 1) (W3.heap.size + 2) mo (hE6.keep hb2.2 (fun x => x)) hm6 rfl hmo.1 (by omega) (by omega) (by omega) (by omega) (by omega) (by omega) (by omega) (by omega) (by omega) (nf _ (by omega) (by omega)) (by omega) _ _ _ _ _ _ _ _ _ _ _ _ _ _ _ _ _ _ _ _ _ _ _ _ _ _ _ _ _ _ _ _ _ _ _ _ _ _ _ _ _ _ _ _ _ _ _ _ _ _ _ _ _ _ _ _ _ _ _ _ _ _ _ _ _ _ _ _ _ _ _ _ _ _ _ _ _ _ _ _ _ _ _ _ _ _ _ _ _ _ _ _ _ _ _ _ _ _ _ _ _ _ _ _ _ _ _ _ _ _ _ _ _ _ _ _ _ _ _ _ _ _ _ _ _ _ _ _ _ _ _ _ _ _ _ _ _ _ _ _ _ _ _ _ _ _ _ _ _ _ _ _ _ _ _ _ _ _ _ _ _ _ _ _ _ _ _ _ _ _ _ _ _ _ _ _ _ _ _ _ _ _ _ _ _ _ _ [] (fun D D' tm W' S' fp' q1 q2 q3 q4 q5 q6 q7 q8 q9 q10 q11 q12 => ⟨rfl, HQQ.out _ _ (Hfin.out _ D D' tm W' S' fp' hE6 q1 q2 q3 q4 q5 q6 q7 q8 q9 q10 q11 q12)⟩)
      exact AllReadyH.nil
    exact AllReadyH.nil
  refine AllReadyH.cons (o := { dst := some 10, op := Op.alloc 3, type := 0, pos := "law.go:96", after := #[], guard := none }) rfl (fun K hK => ?_) ?_
  · go_simp
    refine hK.out _ _ (hHeld.alloc _) (fun hHeld => ?_)
    clear hK K
    try simp only [Act.put, List.setIfInBounds_toArray, List.set_cons_zero, List.set_cons_succ]
    refine wpAnyH_ready (rs := [9]) (by kernel_rfl) (by simp) ?_
    refine AllReadyH.cons (o := { dst := some 46, op := Op.call { callee := Callee.value (Operand.func 46), args := #[Operand.tmp 38, Operand.tmp 45], argTypes := #[3, 3] }, type := 3, pos := "law.go:96", after := #[{ on := 1, ground := Ground.data }, { on := 8, ground := Ground.data }], guard := none }) rfl (fun K hK => ?_) ?_
    · go_simp
      refine Calls.mono (Hpk.out _) ?_
      rintro e w' ⟨rfl, rfl⟩
      refine hK.out _ _ hHeld (fun hHeld => ?_)
      clear hK K
      try simp only [Act.put, List.setIfInBounds_toArray, List.set_cons_zero, List.set_cons_succ]
      refine wpAnyH_ready (rs := [11]) (by kernel_rfl) (by simp) ?_
      refine AllReadyH.cons (o := { dst := none, op := Op.store 3 (Operand.tmp 10) (Operand.tmp 46), type := 0, pos := "law.go:96", after := #[{ on := 10, ground := Ground.data }, { on := 9, ground := Ground.data }, { on := 9, ground := Ground.chain }, { on := 0, ground := Ground.phase }, { on := 1, ground := Ground.phase }, { on := 2, ground := Ground.phase }, { on := 3, ground := Ground.phase }, { on := 4, ground := Ground.phase }, { on := 5, ground := Ground.phase }, { on := 6, ground := Ground.phase }, { on := 7, ground := Ground.phase }, { on := 8, ground := Ground.phase }, { on := 9, ground := Ground.phase }, { on := 10, ground := Ground.phase }], guard := none }) rfl (fun K hK => ?_) ?_
      · go_simp
        refine hK.out _ _ ((Ext.refl _ _).drew.alloc _) (fun hHeld => ?_)
        clear hK K
        try simp only [Act.put, List.setIfInBounds_toArray, List.set_cons_zero, List.set_cons_succ]
        refine wpAnyH_done (by kernel_rfl) ?_ _
        refine ⟨fun h => (by cases h), ?_⟩
        clear hHeld
        gi_wp2_with fail
        exact told_t8 ct hct n (by omega) _ _ x r m W.heap.size (W.heap.size + 1) (W.heap.size + 1 + 1) W3.heap.size (W.heap.size + 3) fp3 S3 0 kd on a b hh nn ss (hp5.keep face hE6 (fun _ _ x => x) (fun x => x)) (hE6.keep hxm (fun x => x)) (hE6.keep b0 (fun x => x)) (hE6.keep b1 (fun x => x)) (hE6.keep b2 (fun x => x)) (hE6.keep hb2.1 (fun x => x)) (hE6.keep hbm (fun x => x)) (by omega) (by omega) (by omega) (by omega) (nf _ (by omega) (by omega)) (nf _ (by omega) (by omega)) (nf _ (by omega) (by omega)) (nf _ (by omega) (by omega)) (nf _ (by omega) (by omega)) (by omega) (by omega) a0 a1 (W3.heap.size + 1) (W3.heap.size + 2) mo (hE6.keep hb2.2 (fun x => x)) hm6 rfl hmo.1 (by omega) (by omega) (by omega) (by omega) (by omega) (by omega) (by omega) (by omega) (by omega) (nf _ (by omega) (by omega)) (by omega) _ _ _ _ _ _ _ _ _ _ _ _ _ _ _ _ _ _ _ _ _ _ _ _ _ _ _ _ _ _ _ _ _ _ _ _ _ _ _ _ _ _ _ _ _ _ _ _ _ _ _ _ _ _ _ _ _ _ _ _ _ _ _ _ _ _ _ _ _ _ _ _ _ _ _ _ _ _ _ _ _ _ _ _ _ _ _ _ _ _ _ _ _ _ _ _ _ _ _ _ _ _ _ _ _ _ _ _ _ _ _ _ _ _ _ _ _ _ _ _ _ _ _ _ _ _ _ _ _ _ _ _ _ _ _ _ _ _ _ _ _ _ _ _ _ _ _ _ _ _ _ _ _ _ _ _ _ _ _ _ _ _ _ _ _ _ _ _ _ _ _ _ _ _ _ _ _ _ _ _ _ _ _ _ _ _ _ [] (fun D D' tm W' S' fp' q1 q2 q3 q4 q5 q6 q7 q8 q9 q10 q11 q12 => ⟨rfl, HQQ.out _ _ (Hfin.out _ D D' tm W' S' fp' hE6 q1 q2 q3 q4 q5 q6 q7 q8 q9 q10 q11 q12)⟩)
      exact AllReadyH.nil
    exact AllReadyH.nil
  exact AllReadyH.nil
end Go.Proofs.YtbagfepdmmfegaaDoor
