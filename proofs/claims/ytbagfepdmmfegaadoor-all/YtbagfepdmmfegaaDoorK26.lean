import Derived.Test.YtbagfepdmmfegaaDoorK25
import Derived.Test.YtbagfepdmmfegaaDoorK18
set_option linter.unusedVariables false
set_option linter.unusedSimpArgs false
/- told: what lies between the two rangings. -/
namespace Go.Proofs.YtbagfepdmmfegaaDoor
open Go.RowKit Go.Shelf
attribute [local go_sem] Oper.semAt_some

def cFst : Code → Code
  | .seq a _ => a
  | c => c
def IsT10 (c : Code) : Prop := c = (cSnd (cSnd (cSnd (cSnd (cSnd (cSnd (cSnd (cSnd (cSnd (cSnd (Tryd.f72.body.getD .skip)))))))))))
theorem t10_split (c : Code) (hc : IsT10 c) : ∃ d, IsT11 d ∧ c = (cFst (cSnd (cSnd (cSnd (cSnd (cSnd (cSnd (cSnd (cSnd (cSnd (cSnd (Tryd.f72.body.getD .skip)))))))))))).seq d := ⟨_, rfl, Eq.trans hc (by kernel_rfl)⟩

/-- the tithe at x has its memory at m -/
def XM (W : World) (x m : Nat) : Prop := W.heap[x]? = some (.cells #[.pointer (some ⟨m, 0, none⟩)] 88 (0, 0))
theorem PrIs.mem {W : World} {x m : Nat} {fp : Nat → Prop} {S : Ti.St} (h : PrIs W x fp S) (hx : XM W x m) : ∃ bf bz, PrAt W m bf bz S ∧ fp m ∧ fp bf ∧ fp bz := by
  obtain ⟨m', bf, bz, v, ht, _, f1, f2, f3, f4, _⟩ := h
  have e := ht.hd
  rw [hx] at e
  obtain rfl : m = m' := by simpa using e
  exact ⟨bf, bz, ht.pr, f2, f3, f4⟩

set_option maxRecDepth 100000 in
theorem told_end (cd : Code) (hcd : IsT11 cd) (n : Nat) (hn : 12 ≤ n) (Q : Exit → Act → World → Prop) (W : World) (x r m pb ob rb nb bm : Nat) (fp : Nat → Prop) (S : Ti.St) (k0 kd on a b hh nn ss : Int) (hp : PairAt PrIs W x r fp S) (hx : XM W x m)
    (e0 : W.heap[pb]? = some (.cells #[.pointer (some ⟨x, 0, none⟩), .pointer (some ⟨r, 0, none⟩)] 85 (0, 0)))
    (eo : W.heap[ob]? = some (.cells #[.int .i64 kd, .int .i64 on, .int .i64 a, .int .i64 b, .int .i64 hh, .int .i64 nn, .int .i64 ss] 65 (0, 0)))
    (e1 : W.heap[rb]? = some (.cells #[.bool false] 4 (0, 0)))
    (e2 : W.heap[nb]? = some (.cells #[.int .i64 k0] 3 (0, 0)))
    (e3 : W.heap[bm]? = some (.cells #[.pointer (some ⟨m, 0, none⟩)] 69 (0, 0)))
    (d1 : pb ≠ nb) (d2 : rb ≠ nb) (d3 : bm ≠ nb) (d8 : pb ≠ rb) (p0 : ¬ fp pb) (p1 : ¬ fp rb) (p2 : ¬ fp nb) (p3 : ¬ fp bm) (p4 : ¬ fp ob) (z1 : nb ≠ 0) (z2 : rb ≠ 0) (a0 : -9223372036854775808 ≤ a) (a1 : a ≤ 9223372036854775807)
    (W2 : World) (S2 : Ti.St) (fp2 : Nat → Prop) (hp2 : PairAt PrIs W2 x r fp2 S2) (hx2 : XM W2 x m) (hE : Ext fp W W2) (hnew : ∀ k, fp2 k → fp k ∨ W.heap.size ≤ k)
    (u0 u1 u6 u7 u9 u10 u11 u12 u13 u14 u15 u16 u17 u18 u19 u20 u21 u22 u23 u24 u25 u26 u27 u28 u29 u30 u31 u32 u33 u34 u35 u36 u37 u38 u39 u40 u41 u42 u43 u44 u45 u46 u47 u48 u49 u50 u51 u52 u53 u54 u55 u56 u57 u58 u59 u60 u61 u62 u63 u64 u65 u66 u67 u68 u69 u70 u71 u72 u73 u74 u75 u76 u77 u78 u79 u80 u81 u82 u83 u84 u85 u86 u87 u88 u89 u90 u91 u92 u93 u94 u95 u96 u97 u98 u99 u100 u101 u102 u103 u104 u105 u106 u107 u108 u109 u110 u111 u112 u113 u114 u115 u116 u117 u118 u119 u120 u121 u122 u123 u124 u125 u126 u127 u128 u129 u130 u131 u132 u133 u134 u135 u136 u137 u138 u139 u140 u141 u142 u143 u144 u145 u146 u147 u148 u149 u150 u151 u152 u153 u154 u155 u156 u157 u158 u159 u160 u161 u162 u163 u164 u165 u166 u167 u168 u169 u170 u171 u172 u173 u174 u175 u176 u177 u178 u179 u180 u181 u182 u183 u184 u185 u186 u187 u188 u189 u190 u191 u192 u193 : Value) (ds : List Deferred)
    (hQ : ∀ D tm W' S' fp', W.heap.size ≤ D → ¬ fp' D → tm.getD 4 undef = .pointer (some ⟨rb, 0, none⟩) → W'.heap[D]? = some (.deferred (some [])) → W'.heap[rb]? = some (.cells #[.bool true] 4 (0, 0)) → PairAt PrIs W' x r fp' S' → (∀ k, fp' k → fp k ∨ W.heap.size ≤ k) → Ext (fun k => fp k ∨ k = nb ∨ k = rb) W W' → Q .ret { tmps := tm, defers := { target := .collected D, args := #[] } :: ds } W') :
    cd.wpIn Fence.wide n Tryd.prog Q { tmps := #[u0, u1, .pointer (some ⟨pb, 0, none⟩), .pointer (some ⟨ob, 0, none⟩), .pointer (some ⟨rb, 0, none⟩), .func (.func 61) #[] #[.pointer (some ⟨bm, 0, none⟩)], u6, u7, .pointer (some ⟨nb, 0, none⟩), u9, u10, u11, u12, u13, u14, u15, u16, u17, u18, u19, u20, u21, u22, u23, u24, u25, u26, u27, u28, u29, u30, u31, u32, u33, u34, u35, u36, u37, u38, u39, u40, u41, u42, u43, u44, u45, u46, u47, u48, u49, u50, u51, u52, u53, u54, u55, u56, u57, u58, u59, u60, u61, u62, u63, u64, u65, u66, u67, u68, u69, u70, u71, u72, u73, u74, u75, u76, u77, u78, u79, u80, u81, u82, u83, u84, u85, u86, u87, u88, u89, u90, u91, u92, u93, u94, u95, u96, u97, u98, u99, u100, u101, u102, u103, u104, u105, u106, u107, u108, u109, u110, u111, u112, u113, u114, u115, u116, u117, u118, u119, u120, u121, u122, u123, u124, u125, u126, u127, u128, u129, u130, u131, u132, u133, u134, u135, u136, u137, u138, u139, u140, u141, u142, u143, u144, u145, u146, u147, u148, u149, u150, u151, u152, u153, u154, u155, u156, u157, u158, u159, u160, u161, u162, u163, u164, u165, u166, u167, u168, u169, u170, u171, u172, u173, u174, u175, u176, u177, u178, u179, u180, u181, u182, u183, u184, u185, u186, u187, u188, u189, u190, u191, u192, u193], defers := ds } W2 := by
  obtain ⟨⟨fx, fr, q1, q2, q3, q4⟩, hl2, hpos2⟩ := hp2
  obtain ⟨bf, bz, hP, fm, fbf, fbz⟩ := q1.mem hx2
  have l1 := lt_of_heap e1
  have l2 := lt_of_heap e2
  have nn2 : ¬ fp2 nb := fun h => (hnew _ h).elim p2 (fun h => by omega)
  have nr2 : ¬ fp2 rb := fun h => (hnew _ h).elim p1 (fun h => by omega)
  have ne : ∀ k, fp2 k → k ≠ nb := fun k hk e => nn2 (by rw [← e]; exact hk)
  have hp2 : PairAt PrIs W2 x r fp2 S2 := ⟨⟨fx, fr, q1, q2, q3, q4⟩, hl2, hpos2⟩
  exact told_t3 cd hcd n hn Q W2 x r m bf bz pb rb nb bm fr S2 k0 hP q2 (hE.keep e0 p0) (hE.keep e1 p1) (hE.keep e2 p2) (hE.keep e3 p3) d1 d2 d3 (ne _ ((q4 _).2 (.inl fm))) (ne _ ((q4 _).2 (.inl fbf))) (ne _ ((q4 _).2 (.inl fbz))) (fun h => nn2 ((q4 _).2 (.inr h))) d8 (fun h => nr2 ((q4 _).2 (.inr h))) u0 u1 (.pointer (some ⟨ob, 0, none⟩)) u6 u7 u9 u10 u11 u12 u13 u14 u15 u16 u17 u18 u19 u20 u21 u22 u23 u24 u25 u26 u27 u28 u29 u30 u31 u32 u33 u34 u35 u36 u37 u38 u39 u40 u41 u42 u43 u44 u45 u46 u47 u48 u49 u50 u51 u52 u53 u54 u55 u56 u57 u58 u59 u60 u61 u62 u63 u64 u65 u66 u67 u68 u69 u70 u71 u72 u73 u74 u75 u76 u77 u78 u79 u80 u81 u82 u83 u84 u85 u86 u87 u88 u89 u90 u91 u92 u93 u94 u95 u96 u97 u98 u99 u100 u101 u102 u103 u104 u105 u106 u107 u108 u109 u110 u111 u112 u113 u114 u115 u116 u117 u118 u119 u120 u121 u122 u123 u124 u125 u126 u127 u128 u129 u130 u131 u132 u133 u134 u135 u136 u137 u138 u139 u140 u141 u142 u143 u144 u145 u146 u147 u148 u149 u150 u151 u152 u153 u154 u155 u156 u157 u158 u159 u160 u161 u162 u163 u164 u165 u166 u167 u168 u169 u170 u171 u172 u173 u174 u175 u176 u177 u178 u179 u180 u181 u182 u183 u184 u185 u186 u187 u188 u189 u190 u191 u192 u193 ds
    (fun D tm W' hD htm hd hr hE' => hQ D tm W' S2 fp2 (by have := hE.size; omega) (fun h => by have := hl2 _ h; omega) htm hd hr (hp2.keep face hE' (fun k hk e => by
      rcases e with e | e
      · exact nn2 (by rw [← show k = nb from e]; exact hk)
      · exact nr2 (by rw [← show k = rb from e]; exact hk)) (by
      rintro (e | e)
      · exact z1 (Eq.symm e)
      · exact z2 (Eq.symm e))) hnew ((hE.mono (fun _ _ h => .inl h)).trans (hE'.mono (fun _ _ h => .inr h))))

set_option maxRecDepth 100000 in
set_option maxHeartbeats 40000000 in
theorem told_t10 (cd : Code) (hcd : IsT10 cd) (n : Nat) (hn : 12 ≤ n) (Q : Exit → Act → World → Prop) (W : World) (x r m pb ob rb nb bm : Nat) (fp : Nat → Prop) (S : Ti.St) (k0 kd on a b hh nn ss : Int) (hp : PairAt PrIs W x r fp S) (hx : XM W x m)
    (e0 : W.heap[pb]? = some (.cells #[.pointer (some ⟨x, 0, none⟩), .pointer (some ⟨r, 0, none⟩)] 85 (0, 0)))
    (eo : W.heap[ob]? = some (.cells #[.int .i64 kd, .int .i64 on, .int .i64 a, .int .i64 b, .int .i64 hh, .int .i64 nn, .int .i64 ss] 65 (0, 0)))
    (e1 : W.heap[rb]? = some (.cells #[.bool false] 4 (0, 0)))
    (e2 : W.heap[nb]? = some (.cells #[.int .i64 k0] 3 (0, 0)))
    (e3 : W.heap[bm]? = some (.cells #[.pointer (some ⟨m, 0, none⟩)] 69 (0, 0)))
    (d1 : pb ≠ nb) (d2 : rb ≠ nb) (d3 : bm ≠ nb) (d8 : pb ≠ rb) (p0 : ¬ fp pb) (p1 : ¬ fp rb) (p2 : ¬ fp nb) (p3 : ¬ fp bm) (p4 : ¬ fp ob) (z1 : nb ≠ 0) (z2 : rb ≠ 0) (a0 : -9223372036854775808 ≤ a) (a1 : a ≤ 9223372036854775807)
    (u0 u1 u6 u7 u9 u10 u11 u12 u13 u14 u15 u16 u17 u18 u19 u20 u21 u22 u23 u24 u25 u26 u27 u28 u29 u30 u31 u32 u33 u34 u35 u36 u37 u38 u39 u40 u41 u42 u43 u44 u45 u46 u47 u48 u49 u50 u51 u52 u53 u54 u55 u56 u57 u58 u59 u60 u61 u62 u63 u64 u65 u66 u67 u68 u69 u70 u71 u72 u73 u74 u75 u76 u77 u78 u79 u80 u81 u82 u83 u84 u85 u86 u87 u88 u89 u90 u91 u92 u93 u94 u95 u96 u97 u98 u99 u100 u101 u102 u103 u104 u105 u106 u107 u108 u109 u110 u111 u112 u113 u114 u115 u116 u117 u118 u119 u120 u121 u122 u123 u124 u125 u126 u127 u128 u129 u130 u131 u132 u133 u134 u135 u136 u137 u138 u139 u140 u141 u142 u143 u144 u145 u146 u147 u148 u149 u150 u151 u152 u153 u154 u155 u156 u157 u158 u159 u160 u161 u162 u163 u164 u165 u166 u167 u168 u169 u170 u171 u172 u173 u174 u175 u176 u177 u178 u179 u180 u181 u182 u183 u184 u185 u186 u187 u188 u189 u190 u191 u192 u193 : Value) (ds : List Deferred)
    (hQ : ∀ D tm W' S' fp', W.heap.size ≤ D → ¬ fp' D → tm.getD 4 undef = .pointer (some ⟨rb, 0, none⟩) → W'.heap[D]? = some (.deferred (some [])) → W'.heap[rb]? = some (.cells #[.bool true] 4 (0, 0)) → PairAt PrIs W' x r fp' S' → (∀ k, fp' k → fp k ∨ W.heap.size ≤ k) → Ext (fun k => fp k ∨ k = nb ∨ k = rb) W W' → Q .ret { tmps := tm, defers := { target := .collected D, args := #[] } :: ds } W') :
    cd.wpIn Fence.wide n Tryd.prog Q { tmps := #[u0, u1, .pointer (some ⟨pb, 0, none⟩), .pointer (some ⟨ob, 0, none⟩), .pointer (some ⟨rb, 0, none⟩), .func (.func 61) #[] #[.pointer (some ⟨bm, 0, none⟩)], u6, u7, .pointer (some ⟨nb, 0, none⟩), u9, u10, u11, u12, u13, u14, u15, u16, u17, u18, u19, u20, u21, u22, u23, u24, u25, u26, u27, u28, u29, u30, u31, u32, u33, u34, u35, u36, u37, u38, u39, u40, u41, u42, u43, u44, u45, u46, u47, u48, u49, u50, u51, u52, u53, u54, u55, u56, u57, u58, u59, u60, u61, u62, u63, u64, u65, u66, u67, u68, u69, u70, u71, u72, u73, u74, u75, u76, u77, u78, u79, u80, u81, u82, u83, u84, u85, u86, u87, u88, u89, u90, u91, u92, u93, u94, u95, u96, u97, u98, u99, u100, u101, u102, u103, u104, u105, u106, u107, u108, u109, u110, u111, u112, u113, u114, u115, u116, u117, u118, u119, u120, u121, u122, u123, u124, u125, u126, u127, u128, u129, u130, u131, u132, u133, u134, u135, u136, u137, u138, u139, u140, u141, u142, u143, u144, u145, u146, u147, u148, u149, u150, u151, u152, u153, u154, u155, u156, u157, u158, u159, u160, u161, u162, u163, u164, u165, u166, u167, u168, u169, u170, u171, u172, u173, u174, u175, u176, u177, u178, u179, u180, u181, u182, u183, u184, u185, u186, u187, u188, u189, u190, u191, u192, u193], defers := ds } W := by
  have h1 : 1 ≤ n := by omega
  refine wpIn_mono (Q := fun e a w => e = .ret ∧ Q e a w) ?_ (fun _ _ _ h => h.2)
  have hp' := hp
  have HQ : Hid _ := hQ
  clear hQ
  obtain ⟨⟨fx, fr, q1, q2, q3, q4⟩, hl, hpos⟩ := hp
  have hI := q2.inv
  have q2' := q2
  obtain ⟨_, bf', bz', p, cap, hRA, _, hfr, _⟩ := q2'
  have hfx : fx x := let ⟨_, _, _, _, _, _, f, _⟩ := q1; f
  have hfew := blocks_few S hI.toInv0
  have hcap := hRA.le
  have y0 := cell_of e0 0
  have y1 := cell_of e0 1
  have y2 := cell_of hRA.hd 4
  have yo := cell_of eo 2
  simp at y0 y1 y2 yo
  obtain ⟨ct, hct, rfl⟩ := t10_split cd hcd
  clear hcd
  simp only [Tryd.f72, Option.getD_some, cSnd, cFst]
  by_cases hz : S.blocks.length = 0
  · have hz' : ¬ (0 : Int) < (S.blocks.length : Int) := by omega
    have hz2 : ¬ 0 < S.blocks.length := by omega
    gi_wp2_with fail
    exact told_end ct hct n hn _ W x r m pb ob rb nb bm fp S k0 kd on a b hh nn ss hp' hx e0 eo e1 e2 e3 d1 d2 d3 d8 p0 p1 p2 p3 p4 z1 z2 a0 a1 W S fp hp' hx (Ext.refl _ _) (fun k hk => .inl hk) _ _ _ _ _ _ _ _ _ _ _ _ _ _ _ _ _ _ _ _ _ _ _ _ _ _ _ _ _ _ _ _ _ _ _ _ _ _ _ _ _ _ _ _ _ _ _ _ _ _ _ _ _ _ _ _ _ _ _ _ _ _ _ _ _ _ _ _ _ _ _ _ _ _ _ _ _ _ _ _ _ _ _ _ _ _ _ _ _ _ _ _ _ _ _ _ _ _ _ _ _ _ _ _ _ _ _ _ _ _ _ _ _ _ _ _ _ _ _ _ _ _ _ _ _ _ _ _ _ _ _ _ _ _ _ _ _ _ _ _ _ _ _ _ _ _ _ _ _ _ _ _ _ _ _ _ _ _ _ _ _ _ _ _ _ _ _ _ _ _ _ _ _ _ _ _ _ _ _ _ _ _ _ _ _ _ _ _ _ ds (fun D tm W' S' fp' q1 q2 q3 q4 q5 q6 q7 q8 => ⟨rfl, HQ.out D tm W' S' fp' q1 q2 q3 q4 q5 q6 q7 q8⟩)
  · have hz' : (0 : Int) < (S.blocks.length : Int) := by omega
    have hz2 : 0 < S.blocks.length := by omega
    have hpi := pickI_bd a S.blocks.length (by omega)
    obtain ⟨i, hi⟩ : ∃ i : Nat, pickI a S.blocks.length = (i : Int) := ⟨(pickI a S.blocks.length).toNat, by omega⟩
    have hil : i < S.blocks.length := by omega
    have hil' : (i : Int) < (S.blocks.length : Int) := by omega
    have Hpk : Hid (∀ w, Calls Tryd.prog 46 #[.int .i64 a, .int .i64 (S.blocks.length : Int)] w fun e w' => e = .returned (.int .i64 (i : Int)) ∧ w = w') := fun w => by rw [← hi]; exact pick_any a S.blocks.length w a0 a1 (by omega) (by omega)
    obtain ⟨bb, c, f, rfl, hbb, hc0, _⟩ := hRA.blocks _ hil
    have y3 : W.cell? ⟨bb, i * 2, none⟩ = some (.int .i64 (Ti.bk S.blocks i).1) := by rw [cell_of hbb]; exact hc0
    generalize (Ti.bk S.blocks i).1 = at_ at *
    have l1 := lt_of_heap e0
    have l2 := lt_of_heap hRA.hd
    have l3 := lt_of_heap hbb
    have l4 := lt_of_heap eo
    have hcc : ∀ (w' : World) (b o : Nat), Ext none1 W w' → b < W.heap.size → w'.cell? ⟨b, o, none⟩ = W.cell? ⟨b, o, none⟩ := fun w' b o hE hl => by
      unfold World.cell?
      simp only [hE.block b hl (fun x => x)]
    have k1 : ∀ (w' : World) (o : Nat), Ext none1 W w' → w'.cell? ⟨pb, o, none⟩ = W.cell? ⟨pb, o, none⟩ := fun w' o h => hcc w' _ o h l1
    have k2 : ∀ (w' : World) (o : Nat), Ext none1 W w' → w'.cell? ⟨r, o, none⟩ = W.cell? ⟨r, o, none⟩ := fun w' o h => hcc w' _ o h l2
    have k3 : ∀ (w' : World) (o : Nat), Ext none1 W w' → w'.cell? ⟨bb, o, none⟩ = W.cell? ⟨bb, o, none⟩ := fun w' o h => hcc w' _ o h l3
    have k4 : ∀ (w' : World) (o : Nat), Ext none1 W w' → w'.cell? ⟨ob, o, none⟩ = W.cell? ⟨ob, o, none⟩ := fun w' o h => hcc w' _ o h l4
    have hEd : Ext none1 W W.drew := (Ext.refl _ _).drew
    clear hcc hRA hbb hc0 hi hpi
    gi_wp2_with fail
    refine wpIn_region_wideQ (fun w' => Ext none1 W w') (by kernel_rfl) (by kernel_rfl) hEd (fun hHeld => ?_)
    refine take_dst 0 118 (v := ?_) rfl (by kernel_rfl) (by kernel_rfl) (by kernel_rfl) rfl (fun _ _ _ h => absurd (And.left (And.right h)) (fun e => by cases e)) (Or.inl ⟨by rfl, ?_⟩) (by assumption) ?_
    rotate_left
    · intro wx hSw
      first | (go_simp; done) | (go_simp; with_reducible rfl)
    simp only [Act.put, List.setIfInBounds_toArray, List.set_cons_zero, List.set_cons_succ]
    refine take_dst 1 119 (v := ?_) rfl (by kernel_rfl) (by kernel_rfl) (by kernel_rfl) rfl (fun _ _ _ h => absurd (And.left (And.right h)) (fun e => by cases e)) (Or.inl ⟨by rfl, ?_⟩) (by assumption) ?_
    rotate_left
    · intro wx hSw
      first | (go_simp; done) | (go_simp; with_reducible rfl)
    simp only [Act.put, List.setIfInBounds_toArray, List.set_cons_zero, List.set_cons_succ]
    refine take_dst 2 120 (v := ?_) rfl (by kernel_rfl) (by kernel_rfl) (by kernel_rfl) rfl (fun _ _ _ h => absurd (And.left (And.right h)) (fun e => by cases e)) (Or.inl ⟨by rfl, ?_⟩) (by assumption) ?_
    rotate_left
    · intro wx hSw
      first | (go_simp; done) | (go_simp; with_reducible rfl)
    simp only [Act.put, List.setIfInBounds_toArray, List.set_cons_zero, List.set_cons_succ]
    refine take_dst 3 121 (v := ?_) rfl (by kernel_rfl) (by kernel_rfl) (by kernel_rfl) rfl (fun _ _ _ h => absurd (And.left (And.right h)) (fun e => by cases e)) (Or.inl ⟨by rfl, ?_⟩) (by assumption) ?_
    rotate_left
    · intro wx hSw
      first | (go_simp; done) | (go_simp; with_reducible rfl)
    simp only [Act.put, List.setIfInBounds_toArray, List.set_cons_zero, List.set_cons_succ]
    refine take_dst 4 122 (v := ?_) rfl (by kernel_rfl) (by kernel_rfl) (by kernel_rfl) rfl (fun _ _ _ h => absurd (And.left (And.right h)) (fun e => by cases e)) (Or.inl ⟨by rfl, ?_⟩) (by assumption) ?_
    rotate_left
    · intro wx hSw
      first | (go_simp; done) | (go_simp; with_reducible rfl)
    simp only [Act.put, List.setIfInBounds_toArray, List.set_cons_zero, List.set_cons_succ]
    refine take_dst 5 123 (v := ?_) rfl (by kernel_rfl) (by kernel_rfl) (by kernel_rfl) rfl (fun _ _ _ h => absurd (And.left (And.right h)) (fun e => by cases e)) (Or.inl ⟨by rfl, ?_⟩) (by assumption) ?_
    rotate_left
    · intro wx hSw
      first | (go_simp; done) | (go_simp; with_reducible rfl)
    simp only [Act.put, List.setIfInBounds_toArray, List.set_cons_zero, List.set_cons_succ]
    refine take_dst 6 124 (v := ?_) rfl (by kernel_rfl) (by kernel_rfl) (by kernel_rfl) rfl (fun _ _ _ h => absurd (And.left (And.right h)) (fun e => by cases e)) (Or.inl ⟨by rfl, ?_⟩) (by assumption) ?_
    rotate_left
    · intro wx hSw
      first | (go_simp; done) | (go_simp; with_reducible rfl)
    simp only [Act.put, List.setIfInBounds_toArray, List.set_cons_zero, List.set_cons_succ]
    refine take_dst 7 125 (v := ?_) rfl (by kernel_rfl) (by kernel_rfl) (by kernel_rfl) rfl (fun _ _ _ h => absurd (And.left (And.right h)) (fun e => by cases e)) (Or.inl ⟨by rfl, ?_⟩) (by assumption) ?_
    rotate_left
    · intro wx hSw
      first | (go_simp; done) | (go_simp; with_reducible rfl)
    simp only [Act.put, List.setIfInBounds_toArray, List.set_cons_zero, List.set_cons_succ]
    refine take_dst 8 126 (v := ?_) rfl (by kernel_rfl) (by kernel_rfl) (by kernel_rfl) rfl (fun _ _ _ h => absurd (And.left (And.right h)) (fun e => by cases e)) (Or.inl ⟨by rfl, ?_⟩) (by assumption) ?_
    rotate_left
    · intro wx hSw
      first | (go_simp; done) | (go_simp; with_reducible rfl)
    simp only [Act.put, List.setIfInBounds_toArray, List.set_cons_zero, List.set_cons_succ]
    refine take_dst 9 127 (v := ?_) rfl (by kernel_rfl) (by kernel_rfl) (by kernel_rfl) rfl (fun _ _ _ h => absurd (And.left (And.right h)) (fun e => by cases e)) (Or.inl ⟨by rfl, ?_⟩) (by assumption) ?_
    rotate_left
    · intro wx hSw
      first | (go_simp; done) | (go_simp; with_reducible rfl)
    simp only [Act.put, List.setIfInBounds_toArray, List.set_cons_zero, List.set_cons_succ]
    refine take_dst 10 128 (v := ?_) rfl (by kernel_rfl) (by kernel_rfl) (by kernel_rfl) rfl (fun _ _ _ h => absurd (And.left (And.right h)) (fun e => by cases e)) (Or.inl ⟨by rfl, ?_⟩) (by assumption) ?_
    rotate_left
    · intro wx hSw
      first | (go_simp; done) | (go_simp; with_reducible rfl)
    simp only [Act.put, List.setIfInBounds_toArray, List.set_cons_zero, List.set_cons_succ]
    refine take_dst 11 129 (v := ?_) rfl (by kernel_rfl) (by kernel_rfl) (by kernel_rfl) rfl (fun _ _ _ h => absurd (And.left (And.right h)) (fun e => by cases e)) (Or.inl ⟨by rfl, ?_⟩) (by assumption) ?_
    rotate_left
    · intro wx hSw
      first | (go_simp; done) | (go_simp; with_reducible rfl)
    simp only [Act.put, List.setIfInBounds_toArray, List.set_cons_zero, List.set_cons_succ]
    refine take_dst 12 130 (v := ?_) rfl (by kernel_rfl) (by kernel_rfl) (by kernel_rfl) rfl (fun _ _ _ h => absurd (And.left (And.right h)) (fun e => by cases e)) (Or.inl ⟨by rfl, ?_⟩) (by assumption) ?_
    rotate_left
    · intro wx hSw
      first | (go_simp; done) | (go_simp; with_reducible rfl)
    simp only [Act.put, List.setIfInBounds_toArray, List.set_cons_zero, List.set_cons_succ]
    refine wpAnyH_ready (rs := [13]) (by kernel_rfl) (by simp) ?_
    refine AllReadyH.cons (o := { dst := some 131, op := Op.call { callee := Callee.value (Operand.func 46), args := #[Operand.tmp 124, Operand.tmp 130], argTypes := #[3, 3] }, type := 3, pos := "law.go:111", after := #[{ on := 6, ground := Ground.data }, { on := 12, ground := Ground.data }], guard := none }) rfl (fun K hK => ?_) ?_
    · go_simp
      refine Calls.mono (Hpk.out _) ?_
      rintro e w' ⟨rfl, rfl⟩
      refine hK.out _ _ hHeld (fun hHeld => ?_)
      clear hK K
      try simp only [Act.put, List.setIfInBounds_toArray, List.set_cons_zero, List.set_cons_succ]
      refine take_dst 14 132 (v := ?_) rfl (by kernel_rfl) (by kernel_rfl) (by kernel_rfl) rfl (fun _ _ _ h => absurd (And.left (And.right h)) (fun e => by cases e)) (Or.inl ⟨by rfl, ?_⟩) (by assumption) ?_
      rotate_left
      · intro wx hSw
        first | (go_simp; done) | (go_simp; with_reducible rfl)
      simp only [Act.put, List.setIfInBounds_toArray, List.set_cons_zero, List.set_cons_succ]
      refine take_dst 15 133 (v := ?_) rfl (by kernel_rfl) (by kernel_rfl) (by kernel_rfl) rfl (fun _ _ _ h => absurd (And.left (And.right h)) (fun e => by cases e)) (Or.inl ⟨by rfl, ?_⟩) (by assumption) ?_
      rotate_left
      · intro wx hSw
        first | (go_simp; done) | (go_simp; with_reducible rfl)
      simp only [Act.put, List.setIfInBounds_toArray, List.set_cons_zero, List.set_cons_succ]
      refine take_dst 16 134 (v := ?_) rfl (by kernel_rfl) (by kernel_rfl) (by kernel_rfl) rfl (fun _ _ _ h => absurd (And.left (And.right h)) (fun e => by cases e)) (Or.inl ⟨by rfl, ?_⟩) (by assumption) ?_
      rotate_left
      · intro wx hSw
        first | (go_simp; done) | (go_simp; with_reducible rfl)
      simp only [Act.put, List.setIfInBounds_toArray, List.set_cons_zero, List.set_cons_succ]
      refine take_dst 17 13 (v := ?_) rfl (by kernel_rfl) (by kernel_rfl) (by kernel_rfl) rfl (fun _ _ _ h => absurd (And.left (And.right h)) (fun e => by cases e)) (Or.inl ⟨by rfl, ?_⟩) (by assumption) ?_
      rotate_left
      · intro wx hSw
        first | (go_simp; done) | (go_simp; with_reducible rfl)
      simp only [Act.put, List.setIfInBounds_toArray, List.set_cons_zero, List.set_cons_succ]
      refine wpAnyH_done (by kernel_rfl) ?_ _
      refine ⟨fun h => (by cases h), ?_⟩
      clear hHeld k1 k2 k3 k4 y0 y1 y2 y3 yo
      have hp0 := hp'.keep face hEd (fun _ _ x => x) (fun x => x)
      have hxd : XM W.drew x m := hEd.keep hx (fun x => x)
      have b0 := hEd.keep e0 (fun x => x)
      have q1d : PrIs W.drew x fx S := q1.keep hEd (fun _ _ x => x) (fun x => x)
      have q2d : RefIs W.drew r fr S := q2.keep hEd (fun _ _ x => x)
      generalize W.drew = Wd at *
      have y0 := cell_of b0 0
      simp at y0
      gi_wp2_with fail
      refine ⟨trivial, Wide.wide.calls ((free_faceT Wd x fx S at_ q1d hI).mono ?_)⟩
      rintro e W1 ⟨rfl, hx1, hkx⟩
      have b1 := hx1.2.keep b0 (fun h => p0 ((q4 _).2 (.inl h)))
      have y1 := cell_of b1 1
      simp at y1
      have hr1 := q2d.keep hx1.2 (fun k hk hh => q3 k hh hk)
      gi_wp2_with fail
      refine ⟨trivial, Wide.wide.calls ((refFree_is W1 r fr S at_ hr1).mono ?_)⟩
      rintro e W2 ⟨rfl, hr⟩
      have hE12 : Ext fr W1 W2 := let ⟨_, _, e, _⟩ := hr; e
      have hx2 : XM W2 x m := hE12.keep (hkx _ hxd) (fun h => q3 _ hfx h)
      obtain ⟨fp2, hp2, hE2, hn2⟩ := PPost.of face q3 q4 (fun k hk => Nat.lt_of_lt_of_le (hl k hk) hEd.size) (Nat.lt_of_lt_of_le (Nat.lt_of_le_of_lt (Nat.zero_le _) l1) hEd.size) hpos hx1.x hr
      have hE3 : Ext fp W W2 := (hEd.mono (fun _ _ x => x.elim)).trans hE2
      have hn3 : ∀ k, fp2 k → fp k ∨ W.heap.size ≤ k := fun k hk => (hn2 k hk).imp id (fun h => Nat.le_trans hEd.size h)
      clear hr hx1 hkx hr1 b0 b1 y0 y1 q1d q2d hp0 hxd
      gi_wp2_with fail
      refine ⟨trivial, Wide.wide.calls ((num_any _ _).mono ?_)⟩
      rintro e w' ⟨rfl, rfl⟩
      gi_wp2_with fail
      exact told_end ct hct n hn _ W x r m pb ob rb nb bm fp S k0 kd on a b hh nn ss hp' hx e0 eo e1 e2 e3 d1 d2 d3 d8 p0 p1 p2 p3 p4 z1 z2 a0 a1 W2 _ fp2 hp2 hx2 hE3 hn3 _ _ _ _ _ _ _ _ _ _ _ _ _ _ _ _ _ _ _ _ _ _ _ _ _ _ _ _ _ _ _ _ _ _ _ _ _ _ _ _ _ _ _ _ _ _ _ _ _ _ _ _ _ _ _ _ _ _ _ _ _ _ _ _ _ _ _ _ _ _ _ _ _ _ _ _ _ _ _ _ _ _ _ _ _ _ _ _ _ _ _ _ _ _ _ _ _ _ _ _ _ _ _ _ _ _ _ _ _ _ _ _ _ _ _ _ _ _ _ _ _ _ _ _ _ _ _ _ _ _ _ _ _ _ _ _ _ _ _ _ _ _ _ _ _ _ _ _ _ _ _ _ _ _ _ _ _ _ _ _ _ _ _ _ _ _ _ _ _ _ _ _ _ _ _ _ _ _ _ _ _ _ _ _ _ _ _ _ _ ds (fun D tm W' S' fp' q1 q2 q3 q4 q5 q6 q7 q8 => ⟨rfl, HQ.out D tm W' S' fp' q1 q2 q3 q4 q5 q6 q7 q8⟩)
    exact AllReadyH.nil
end Go.Proofs.YtbagfepdmmfegaaDoor

/- told: behind its first ranging. -/
namespace Go.Proofs.YtbagfepdmmfegaaDoor
open Go.RowKit Go.Shelf
attribute [local go_sem] Oper.semAt_some

def IsT9 (c : Code) : Prop := c = (cSnd (cSnd (cSnd (cSnd (cSnd (cSnd (cSnd (cSnd (cSnd (Tryd.f72.body.getD .skip))))))))))
theorem t9_split (c : Code) (hc : IsT9 c) : ∃ d, IsT10 d ∧ c = (cFst (cSnd (cSnd (cSnd (cSnd (cSnd (cSnd (cSnd (cSnd (cSnd (Tryd.f72.body.getD .skip))))))))))).seq d := ⟨_, rfl, Eq.trans hc (by kernel_rfl)⟩

set_option maxRecDepth 100000 in
set_option maxHeartbeats 40000000 in
theorem told_t9 (cd : Code) (hcd : IsT9 cd) (n : Nat) (hn : 12 ≤ n) (Q : Exit → Act → World → Prop) (W : World) (x r m pb ob rb nb bm : Nat) (fp : Nat → Prop) (S : Ti.St) (k0 kd on a b hh nn ss : Int) (hp : PairAt PrIs W x r fp S) (hx : XM W x m)
    (e0 : W.heap[pb]? = some (.cells #[.pointer (some ⟨x, 0, none⟩), .pointer (some ⟨r, 0, none⟩)] 85 (0, 0)))
    (eo : W.heap[ob]? = some (.cells #[.int .i64 kd, .int .i64 on, .int .i64 a, .int .i64 b, .int .i64 hh, .int .i64 nn, .int .i64 ss] 65 (0, 0)))
    (e1 : W.heap[rb]? = some (.cells #[.bool false] 4 (0, 0)))
    (e2 : W.heap[nb]? = some (.cells #[.int .i64 k0] 3 (0, 0)))
    (e3 : W.heap[bm]? = some (.cells #[.pointer (some ⟨m, 0, none⟩)] 69 (0, 0)))
    (d1 : pb ≠ nb) (d2 : rb ≠ nb) (d3 : bm ≠ nb) (d8 : pb ≠ rb) (p0 : ¬ fp pb) (p1 : ¬ fp rb) (p2 : ¬ fp nb) (p3 : ¬ fp bm) (p4 : ¬ fp ob) (z1 : nb ≠ 0) (z2 : rb ≠ 0) (a0 : -9223372036854775808 ≤ a) (a1 : a ≤ 9223372036854775807)
    (okb mb : Nat) (mo : Int) (eok : W.heap[okb]? = some (.cells #[.bool true] 4 (0, 0))) (em : W.heap[mb]? = some (.cells #[.int .i64 mo] 3 (0, 0))) (hk : k0 = mo ∨ k0 = (S.blocks.length : Int))
    (u0 u1 u6 u7 u11 u12 u13 u14 u15 u16 u17 u18 u19 u20 u21 u22 u23 u24 u25 u26 u27 u28 u29 u30 u31 u32 u33 u34 u35 u36 u37 u38 u39 u40 u41 u42 u43 u44 u45 u46 u47 u48 u49 u50 u51 u52 u53 u54 u55 u56 u57 u58 u59 u60 u61 u62 u63 u64 u65 u66 u67 u68 u69 u70 u71 u72 u73 u74 u75 u76 u77 u78 u79 u80 u81 u82 u83 u84 u85 u86 u87 u88 u89 u90 u91 u92 u93 u94 u95 u96 u97 u98 u99 u100 u101 u102 u103 u104 u105 u106 u107 u108 u109 u110 u111 u112 u113 u114 u115 u116 u117 u118 u119 u120 u121 u122 u123 u124 u125 u126 u127 u128 u129 u130 u131 u132 u133 u134 u135 u136 u137 u138 u139 u140 u141 u142 u143 u144 u145 u146 u147 u148 u149 u150 u151 u152 u153 u154 u155 u156 u157 u158 u159 u160 u161 u162 u163 u164 u165 u166 u167 u168 u169 u170 u171 u172 u173 u174 u175 u176 u177 u178 u179 u180 u181 u182 u183 u184 u185 u186 u187 u188 u189 u190 u191 u192 u193 : Value) (ds : List Deferred)
    (hQ : ∀ D tm W' S' fp', W.heap.size ≤ D → ¬ fp' D → tm.getD 4 undef = .pointer (some ⟨rb, 0, none⟩) → W'.heap[D]? = some (.deferred (some [])) → W'.heap[rb]? = some (.cells #[.bool true] 4 (0, 0)) → PairAt PrIs W' x r fp' S' → (∀ k, fp' k → fp k ∨ W.heap.size ≤ k) → Ext (fun k => fp k ∨ k = nb ∨ k = rb) W W' → Q .ret { tmps := tm, defers := { target := .collected D, args := #[] } :: ds } W') :
    cd.wpIn Fence.wide n Tryd.prog Q { tmps := #[u0, u1, .pointer (some ⟨pb, 0, none⟩), .pointer (some ⟨ob, 0, none⟩), .pointer (some ⟨rb, 0, none⟩), .func (.func 61) #[] #[.pointer (some ⟨bm, 0, none⟩)], u6, u7, .pointer (some ⟨nb, 0, none⟩), .pointer (some ⟨okb, 0, none⟩), .pointer (some ⟨mb, 0, none⟩), u11, u12, u13, u14, u15, u16, u17, u18, u19, u20, u21, u22, u23, u24, u25, u26, u27, u28, u29, u30, u31, u32, u33, u34, u35, u36, u37, u38, u39, u40, u41, u42, u43, u44, u45, u46, u47, u48, u49, u50, u51, u52, u53, u54, u55, u56, u57, u58, u59, u60, u61, u62, u63, u64, u65, u66, u67, u68, u69, u70, u71, u72, u73, u74, u75, u76, u77, u78, u79, u80, u81, u82, u83, u84, u85, u86, u87, u88, u89, u90, u91, u92, u93, u94, u95, u96, u97, u98, u99, u100, u101, u102, u103, u104, u105, u106, u107, u108, u109, u110, u111, u112, u113, u114, u115, u116, u117, u118, u119, u120, u121, u122, u123, u124, u125, u126, u127, u128, u129, u130, u131, u132, u133, u134, u135, u136, u137, u138, u139, u140, u141, u142, u143, u144, u145, u146, u147, u148, u149, u150, u151, u152, u153, u154, u155, u156, u157, u158, u159, u160, u161, u162, u163, u164, u165, u166, u167, u168, u169, u170, u171, u172, u173, u174, u175, u176, u177, u178, u179, u180, u181, u182, u183, u184, u185, u186, u187, u188, u189, u190, u191, u192, u193], defers := ds } W := by
  have h1 : 1 ≤ n := by omega
  refine wpIn_mono (Q := fun e a w => e = .ret ∧ Q e a w) ?_ (fun _ _ _ h => h.2)
  have HQ : Hid _ := hQ
  clear hQ
  have hp' := hp
  obtain ⟨⟨fx, fr, q1, q2, q3, q4⟩, hl, hpos⟩ := hp'
  have hI := q2.inv
  obtain ⟨_, bf', bz', p, cap, hRA, _, hfr, _⟩ := q2
  have hfew := blocks_few S hI.toInv0
  have y1 := cell_of e0 1
  have y2 := cell_of hRA.hd 4
  have y3 := cell_of e2 0
  have y4 := cell_of eok 0
  have y5 := cell_of em 0
  simp at y1 y2 y3 y4 y5
  have l1 := lt_of_heap e0
  have l2 := lt_of_heap hRA.hd
  have l3 := lt_of_heap e2
  have l4 := lt_of_heap eok
  have l5 := lt_of_heap em
  have hcc : ∀ (w' : World) (b o : Nat), Ext none1 W w' → b < W.heap.size → w'.cell? ⟨b, o, none⟩ = W.cell? ⟨b, o, none⟩ := fun w' b o hE hl => by
    unfold World.cell?
    simp only [hE.block b hl (fun x => x)]
  have k1 : ∀ (w' : World) (o : Nat), Ext none1 W w' → w'.cell? ⟨pb, o, none⟩ = W.cell? ⟨pb, o, none⟩ := fun w' o h => hcc w' _ o h l1
  have k2 : ∀ (w' : World) (o : Nat), Ext none1 W w' → w'.cell? ⟨r, o, none⟩ = W.cell? ⟨r, o, none⟩ := fun w' o h => hcc w' _ o h l2
  have k3 : ∀ (w' : World) (o : Nat), Ext none1 W w' → w'.cell? ⟨nb, o, none⟩ = W.cell? ⟨nb, o, none⟩ := fun w' o h => hcc w' _ o h l3
  have k4 : ∀ (w' : World) (o : Nat), Ext none1 W w' → w'.cell? ⟨okb, o, none⟩ = W.cell? ⟨okb, o, none⟩ := fun w' o h => hcc w' _ o h l4
  have k5 : ∀ (w' : World) (o : Nat), Ext none1 W w' → w'.cell? ⟨mb, o, none⟩ = W.cell? ⟨mb, o, none⟩ := fun w' o h => hcc w' _ o h l5
  have hEd : Ext none1 W W.drew := (Ext.refl _ _).drew
  clear hcc hRA
  obtain ⟨ct, hct, rfl⟩ := t9_split cd hcd
  clear hcd
  simp only [Tryd.f72, Option.getD_some, cSnd, cFst]
  by_cases hm : k0 = mo
  · subst hm
    gi_wp2_with fail
    refine wpIn_region_wideQ (fun w' => Ext none1 W w') (by kernel_rfl) (by kernel_rfl) hEd (fun hHeld => ?_)
    refine take_dst 0 94 (v := ?_) rfl (by kernel_rfl) (by kernel_rfl) (by kernel_rfl) rfl (fun _ _ _ h => absurd (And.left (And.right h)) (fun e => by cases e)) (Or.inl ⟨by rfl, ?_⟩) (by assumption) ?_
    rotate_left
    · intro wx hSw
      first | (go_simp; done) | (go_simp; with_reducible rfl)
    simp only [Act.put, List.setIfInBounds_toArray, List.set_cons_zero, List.set_cons_succ]
    refine take_dst 1 95 (v := .bool false) rfl (by kernel_rfl) (by kernel_rfl) (by kernel_rfl) rfl (fun _ _ _ h => absurd (And.left (And.right h)) (fun e => by cases e)) (Or.inl ⟨by rfl, ?_⟩) (by assumption) ?_
    · intro wx hSw
      first | (go_simp; done) | (go_simp; simp; done) | (go_simp; simp; omega)
    simp only [Act.put, List.setIfInBounds_toArray, List.set_cons_zero, List.set_cons_succ]
    refine take_dst 2 96 (v := ?_) rfl (by kernel_rfl) (by kernel_rfl) (by kernel_rfl) rfl (fun _ _ _ h => absurd (And.left (And.right h)) (fun e => by cases e)) (Or.inl ⟨by rfl, ?_⟩) (by assumption) ?_
    rotate_left
    · intro wx hSw
      first | (go_simp; done) | (go_simp; with_reducible rfl)
    simp only [Act.put, List.setIfInBounds_toArray, List.set_cons_zero, List.set_cons_succ]
    refine take_dst 3 97 (v := ?_) rfl (by kernel_rfl) (by kernel_rfl) (by kernel_rfl) rfl (fun _ _ _ h => absurd (And.left (And.right h)) (fun e => by cases e)) (Or.inl ⟨by rfl, ?_⟩) (by assumption) ?_
    rotate_left
    · intro wx hSw
      first | (go_simp; done) | (go_simp; with_reducible rfl)
    simp only [Act.put, List.setIfInBounds_toArray, List.set_cons_zero, List.set_cons_succ]
    refine take_dst 4 98 (v := ?_) rfl (by kernel_rfl) (by kernel_rfl) (by kernel_rfl) rfl (fun _ _ _ h => absurd (And.left (And.right h)) (fun e => by cases e)) (Or.inl ⟨by rfl, ?_⟩) (by assumption) ?_
    rotate_left
    · intro wx hSw
      first | (go_simp; done) | (go_simp; with_reducible rfl)
    simp only [Act.put, List.setIfInBounds_toArray, List.set_cons_zero, List.set_cons_succ]
    refine take_dst 5 99 (v := .bool false) rfl (by kernel_rfl) (by kernel_rfl) (by kernel_rfl) rfl (fun _ _ _ h => absurd (And.left (And.right h)) (fun e => by cases e)) (Or.inl ⟨by rfl, ?_⟩) (by assumption) ?_
    · intro wx hSw
      first | (go_simp; done) | (go_simp; simp; done) | (go_simp; simp; omega)
    simp only [Act.put, List.setIfInBounds_toArray, List.set_cons_zero, List.set_cons_succ]
    refine take_dst 6 100 (v := ?_) rfl (by kernel_rfl) (by kernel_rfl) (by kernel_rfl) rfl (fun _ _ _ h => absurd (And.left (And.right h)) (fun e => by cases e)) (Or.inl ⟨by rfl, ?_⟩) (by assumption) ?_
    rotate_left
    · intro wx hSw
      first | (go_simp; done) | (go_simp; with_reducible rfl)
    simp only [Act.put, List.setIfInBounds_toArray, List.set_cons_zero, List.set_cons_succ]
    refine take_dst 7 101 (v := undef) rfl (by kernel_rfl) (by kernel_rfl) (by kernel_rfl) rfl (fun _ _ _ h => absurd (And.left (And.right h)) (fun e => by cases e)) (Or.inr ⟨by rfl, rfl⟩) (by assumption) ?_
    simp only [Act.put, List.setIfInBounds_toArray, List.set_cons_zero, List.set_cons_succ]
    refine take_dst 8 102 (v := undef) rfl (by kernel_rfl) (by kernel_rfl) (by kernel_rfl) rfl (fun _ _ _ h => absurd (And.left (And.right h)) (fun e => by cases e)) (Or.inr ⟨by rfl, rfl⟩) (by assumption) ?_
    simp only [Act.put, List.setIfInBounds_toArray, List.set_cons_zero, List.set_cons_succ]
    refine take_dst 9 103 (v := undef) rfl (by kernel_rfl) (by kernel_rfl) (by kernel_rfl) rfl (fun _ _ _ h => absurd (And.left (And.right h)) (fun e => by cases e)) (Or.inr ⟨by rfl, rfl⟩) (by assumption) ?_
    simp only [Act.put, List.setIfInBounds_toArray, List.set_cons_zero, List.set_cons_succ]
    refine take_dst 10 104 (v := undef) rfl (by kernel_rfl) (by kernel_rfl) (by kernel_rfl) rfl (fun _ _ _ h => absurd (And.left (And.right h)) (fun e => by cases e)) (Or.inr ⟨by rfl, rfl⟩) (by assumption) ?_
    simp only [Act.put, List.setIfInBounds_toArray, List.set_cons_zero, List.set_cons_succ]
    refine take_dst 11 105 (v := undef) rfl (by kernel_rfl) (by kernel_rfl) (by kernel_rfl) rfl (fun _ _ _ h => absurd (And.left (And.right h)) (fun e => by cases e)) (Or.inr ⟨by rfl, rfl⟩) (by assumption) ?_
    simp only [Act.put, List.setIfInBounds_toArray, List.set_cons_zero, List.set_cons_succ]
    refine take_dst 12 106 (v := undef) rfl (by kernel_rfl) (by kernel_rfl) (by kernel_rfl) rfl (fun _ _ _ h => absurd (And.left (And.right h)) (fun e => by cases e)) (Or.inr ⟨by rfl, rfl⟩) (by assumption) ?_
    simp only [Act.put, List.setIfInBounds_toArray, List.set_cons_zero, List.set_cons_succ]
    refine take_dst 13 107 (v := undef) rfl (by kernel_rfl) (by kernel_rfl) (by kernel_rfl) rfl (fun _ _ _ h => absurd (And.left (And.right h)) (fun e => by cases e)) (Or.inr ⟨by rfl, rfl⟩) (by assumption) ?_
    simp only [Act.put, List.setIfInBounds_toArray, List.set_cons_zero, List.set_cons_succ]
    refine take_dst 14 108 (v := undef) rfl (by kernel_rfl) (by kernel_rfl) (by kernel_rfl) rfl (fun _ _ _ h => absurd (And.left (And.right h)) (fun e => by cases e)) (Or.inr ⟨by rfl, rfl⟩) (by assumption) ?_
    simp only [Act.put, List.setIfInBounds_toArray, List.set_cons_zero, List.set_cons_succ]
    refine take_dst 15 109 (v := ?_) rfl (by kernel_rfl) (by kernel_rfl) (by kernel_rfl) rfl (fun _ _ _ h => absurd (And.left (And.right h)) (fun e => by cases e)) (Or.inl ⟨by rfl, ?_⟩) (by assumption) ?_
    rotate_left
    · intro wx hSw
      first | (go_simp; done) | (go_simp; with_reducible rfl)
    simp only [Act.put, List.setIfInBounds_toArray, List.set_cons_zero, List.set_cons_succ]
    refine take_dst 16 110 (v := ?_) rfl (by kernel_rfl) (by kernel_rfl) (by kernel_rfl) rfl (fun _ _ _ h => absurd (And.left (And.right h)) (fun e => by cases e)) (Or.inl ⟨by rfl, ?_⟩) (by assumption) ?_
    rotate_left
    · intro wx hSw
      first | (go_simp; done) | (go_simp; with_reducible rfl)
    simp only [Act.put, List.setIfInBounds_toArray, List.set_cons_zero, List.set_cons_succ]
    refine wpAnyH_done (by kernel_rfl) ?_ _
    refine ⟨fun h => (by cases h), ?_⟩
    clear hHeld k1 k2 k3 k4 k5
    gi_wp2_with fail
    exact told_t10 ct hct n hn _ W.drew x r m pb ob rb nb bm fp S k0 kd on a b hh nn ss (hp.keep face hEd (fun _ _ x => x) (fun x => x)) (hEd.keep hx (fun x => x)) (hEd.keep e0 (fun x => x)) (hEd.keep eo (fun x => x)) (hEd.keep e1 (fun x => x)) (hEd.keep e2 (fun x => x)) (hEd.keep e3 (fun x => x)) d1 d2 d3 d8 p0 p1 p2 p3 p4 z1 z2 a0 a1 _ _ _ _ _ _ _ _ _ _ _ _ _ _ _ _ _ _ _ _ _ _ _ _ _ _ _ _ _ _ _ _ _ _ _ _ _ _ _ _ _ _ _ _ _ _ _ _ _ _ _ _ _ _ _ _ _ _ _ _ _ _ _ _ _ _ _ _ _ _ _ _ _ _ _ _ _ _ _ _ _ _ _ _ _ _ _ _ _ _ _ _ _ _ _ _ _ _ _ _ _ _ _ _ _ _ _ _ _ _ _ _ _ _ _ _ _ _ _ _ _ _ _ _ _ _ _ _ _ _ _ _ _ _ _ _ _ _ _ _ _ _ _ _ _ _ _ _ _ _ _ _ _ _ _ _ _ _ _ _ _ _ _ _ _ _ _ _ _ _ _ _ _ _ _ _ _ _ _ _ _ _ _ _ _ _ _ _ _ ds (fun D tm W' S' fp' q1 q2 q3 q4 q5 q6 q7 q8 => ⟨rfl, HQ.out D tm W' S' fp' q1 q2 q3 q4 q5 q6 q7 ((hEd.mono (fun _ _ x => x.elim)).trans q8)⟩)
  · obtain rfl : k0 = (S.blocks.length : Int) := hk.resolve_left hm
    gi_wp2_with fail
    refine wpIn_region_wideQ (fun w' => Ext none1 W w') (by kernel_rfl) (by kernel_rfl) hEd (fun hHeld => ?_)
    refine take_dst 0 94 (v := ?_) rfl (by kernel_rfl) (by kernel_rfl) (by kernel_rfl) rfl (fun _ _ _ h => absurd (And.left (And.right h)) (fun e => by cases e)) (Or.inl ⟨by rfl, ?_⟩) (by assumption) ?_
    rotate_left
    · intro wx hSw
      first | (go_simp; done) | (go_simp; with_reducible rfl)
    simp only [Act.put, List.setIfInBounds_toArray, List.set_cons_zero, List.set_cons_succ]
    refine take_dst 1 95 (v := .bool false) rfl (by kernel_rfl) (by kernel_rfl) (by kernel_rfl) rfl (fun _ _ _ h => absurd (And.left (And.right h)) (fun e => by cases e)) (Or.inl ⟨by rfl, ?_⟩) (by assumption) ?_
    · intro wx hSw
      first | (go_simp; done) | (go_simp; simp; done) | (go_simp; simp; omega)
    simp only [Act.put, List.setIfInBounds_toArray, List.set_cons_zero, List.set_cons_succ]
    refine take_dst 2 96 (v := ?_) rfl (by kernel_rfl) (by kernel_rfl) (by kernel_rfl) rfl (fun _ _ _ h => absurd (And.left (And.right h)) (fun e => by cases e)) (Or.inl ⟨by rfl, ?_⟩) (by assumption) ?_
    rotate_left
    · intro wx hSw
      first | (go_simp; done) | (go_simp; with_reducible rfl)
    simp only [Act.put, List.setIfInBounds_toArray, List.set_cons_zero, List.set_cons_succ]
    refine take_dst 3 97 (v := ?_) rfl (by kernel_rfl) (by kernel_rfl) (by kernel_rfl) rfl (fun _ _ _ h => absurd (And.left (And.right h)) (fun e => by cases e)) (Or.inl ⟨by rfl, ?_⟩) (by assumption) ?_
    rotate_left
    · intro wx hSw
      first | (go_simp; done) | (go_simp; with_reducible rfl)
    simp only [Act.put, List.setIfInBounds_toArray, List.set_cons_zero, List.set_cons_succ]
    refine take_dst 4 98 (v := ?_) rfl (by kernel_rfl) (by kernel_rfl) (by kernel_rfl) rfl (fun _ _ _ h => absurd (And.left (And.right h)) (fun e => by cases e)) (Or.inl ⟨by rfl, ?_⟩) (by assumption) ?_
    rotate_left
    · intro wx hSw
      first | (go_simp; done) | (go_simp; with_reducible rfl)
    simp only [Act.put, List.setIfInBounds_toArray, List.set_cons_zero, List.set_cons_succ]
    refine take_dst 5 99 (v := .bool true) rfl (by kernel_rfl) (by kernel_rfl) (by kernel_rfl) rfl (fun _ _ _ h => absurd (And.left (And.right h)) (fun e => by cases e)) (Or.inl ⟨by rfl, ?_⟩) (by assumption) ?_
    · intro wx hSw
      first | (go_simp; done) | (go_simp; simp; done) | (go_simp; simp; omega)
    simp only [Act.put, List.setIfInBounds_toArray, List.set_cons_zero, List.set_cons_succ]
    refine take_dst 6 100 (v := ?_) rfl (by kernel_rfl) (by kernel_rfl) (by kernel_rfl) rfl (fun _ _ _ h => absurd (And.left (And.right h)) (fun e => by cases e)) (Or.inl ⟨by rfl, ?_⟩) (by assumption) ?_
    rotate_left
    · intro wx hSw
      first | (go_simp; done) | (go_simp; with_reducible rfl)
    simp only [Act.put, List.setIfInBounds_toArray, List.set_cons_zero, List.set_cons_succ]
    refine take_dst 7 101 (v := ?_) rfl (by kernel_rfl) (by kernel_rfl) (by kernel_rfl) rfl (fun _ _ _ h => absurd (And.left (And.right h)) (fun e => by cases e)) (Or.inl ⟨by rfl, ?_⟩) (by assumption) ?_
    rotate_left
    · intro wx hSw
      first | (go_simp; done) | (go_simp; with_reducible rfl)
    simp only [Act.put, List.setIfInBounds_toArray, List.set_cons_zero, List.set_cons_succ]
    refine take_dst 8 102 (v := ?_) rfl (by kernel_rfl) (by kernel_rfl) (by kernel_rfl) rfl (fun _ _ _ h => absurd (And.left (And.right h)) (fun e => by cases e)) (Or.inl ⟨by rfl, ?_⟩) (by assumption) ?_
    rotate_left
    · intro wx hSw
      first | (go_simp; done) | (go_simp; with_reducible rfl)
    simp only [Act.put, List.setIfInBounds_toArray, List.set_cons_zero, List.set_cons_succ]
    refine take_dst 9 103 (v := ?_) rfl (by kernel_rfl) (by kernel_rfl) (by kernel_rfl) rfl (fun _ _ _ h => absurd (And.left (And.right h)) (fun e => by cases e)) (Or.inl ⟨by rfl, ?_⟩) (by assumption) ?_
    rotate_left
    · intro wx hSw
      first | (go_simp; done) | (go_simp; with_reducible rfl)
    simp only [Act.put, List.setIfInBounds_toArray, List.set_cons_zero, List.set_cons_succ]
    refine take_dst 10 104 (v := ?_) rfl (by kernel_rfl) (by kernel_rfl) (by kernel_rfl) rfl (fun _ _ _ h => absurd (And.left (And.right h)) (fun e => by cases e)) (Or.inl ⟨by rfl, ?_⟩) (by assumption) ?_
    rotate_left
    · intro wx hSw
      first | (go_simp; done) | (go_simp; with_reducible rfl)
    simp only [Act.put, List.setIfInBounds_toArray, List.set_cons_zero, List.set_cons_succ]
    refine take_dst 11 105 (v := ?_) rfl (by kernel_rfl) (by kernel_rfl) (by kernel_rfl) rfl (fun _ _ _ h => absurd (And.left (And.right h)) (fun e => by cases e)) (Or.inl ⟨by rfl, ?_⟩) (by assumption) ?_
    rotate_left
    · intro wx hSw
      first | (go_simp; done) | (go_simp; with_reducible rfl)
    simp only [Act.put, List.setIfInBounds_toArray, List.set_cons_zero, List.set_cons_succ]
    refine take_dst 12 106 (v := ?_) rfl (by kernel_rfl) (by kernel_rfl) (by kernel_rfl) rfl (fun _ _ _ h => absurd (And.left (And.right h)) (fun e => by cases e)) (Or.inl ⟨by rfl, ?_⟩) (by assumption) ?_
    rotate_left
    · intro wx hSw
      first | (go_simp; done) | (go_simp; with_reducible rfl)
    simp only [Act.put, List.setIfInBounds_toArray, List.set_cons_zero, List.set_cons_succ]
    refine take_dst 13 107 (v := ?_) rfl (by kernel_rfl) (by kernel_rfl) (by kernel_rfl) rfl (fun _ _ _ h => absurd (And.left (And.right h)) (fun e => by cases e)) (Or.inl ⟨by rfl, ?_⟩) (by assumption) ?_
    rotate_left
    · intro wx hSw
      first | (go_simp; done) | (go_simp; with_reducible rfl)
    simp only [Act.put, List.setIfInBounds_toArray, List.set_cons_zero, List.set_cons_succ]
    refine take_dst 14 108 (v := .bool false) rfl (by kernel_rfl) (by kernel_rfl) (by kernel_rfl) rfl (fun _ _ _ h => absurd (And.left (And.right h)) (fun e => by cases e)) (Or.inl ⟨by rfl, ?_⟩) (by assumption) ?_
    · intro wx hSw
      first | (go_simp; done) | (go_simp; simp; done) | (go_simp; simp; omega)
    simp only [Act.put, List.setIfInBounds_toArray, List.set_cons_zero, List.set_cons_succ]
    refine take_dst 15 109 (v := ?_) rfl (by kernel_rfl) (by kernel_rfl) (by kernel_rfl) rfl (fun _ _ _ h => absurd (And.left (And.right h)) (fun e => by cases e)) (Or.inl ⟨by rfl, ?_⟩) (by assumption) ?_
    rotate_left
    · intro wx hSw
      first | (go_simp; done) | (go_simp; with_reducible rfl)
    simp only [Act.put, List.setIfInBounds_toArray, List.set_cons_zero, List.set_cons_succ]
    refine take_dst 16 110 (v := ?_) rfl (by kernel_rfl) (by kernel_rfl) (by kernel_rfl) rfl (fun _ _ _ h => absurd (And.left (And.right h)) (fun e => by cases e)) (Or.inl ⟨by rfl, ?_⟩) (by assumption) ?_
    rotate_left
    · intro wx hSw
      first | (go_simp; done) | (go_simp; with_reducible rfl)
    simp only [Act.put, List.setIfInBounds_toArray, List.set_cons_zero, List.set_cons_succ]
    refine wpAnyH_done (by kernel_rfl) ?_ _
    refine ⟨fun h => (by cases h), ?_⟩
    clear hHeld k1 k2 k3 k4 k5
    gi_wp2_with fail
    exact told_t10 ct hct n hn _ W.drew x r m pb ob rb nb bm fp S _ kd on a b hh nn ss (hp.keep face hEd (fun _ _ x => x) (fun x => x)) (hEd.keep hx (fun x => x)) (hEd.keep e0 (fun x => x)) (hEd.keep eo (fun x => x)) (hEd.keep e1 (fun x => x)) (hEd.keep e2 (fun x => x)) (hEd.keep e3 (fun x => x)) d1 d2 d3 d8 p0 p1 p2 p3 p4 z1 z2 a0 a1 _ _ _ _ _ _ _ _ _ _ _ _ _ _ _ _ _ _ _ _ _ _ _ _ _ _ _ _ _ _ _ _ _ _ _ _ _ _ _ _ _ _ _ _ _ _ _ _ _ _ _ _ _ _ _ _ _ _ _ _ _ _ _ _ _ _ _ _ _ _ _ _ _ _ _ _ _ _ _ _ _ _ _ _ _ _ _ _ _ _ _ _ _ _ _ _ _ _ _ _ _ _ _ _ _ _ _ _ _ _ _ _ _ _ _ _ _ _ _ _ _ _ _ _ _ _ _ _ _ _ _ _ _ _ _ _ _ _ _ _ _ _ _ _ _ _ _ _ _ _ _ _ _ _ _ _ _ _ _ _ _ _ _ _ _ _ _ _ _ _ _ _ _ _ _ _ _ _ _ _ _ _ _ _ _ _ _ _ _ ds (fun D tm W' S' fp' q1 q2 q3 q4 q5 q6 q7 q8 => ⟨rfl, HQ.out D tm W' S' fp' q1 q2 q3 q4 q5 q6 q7 ((hEd.mono (fun _ _ x => x.elim)).trans q8)⟩)
end Go.Proofs.YtbagfepdmmfegaaDoor
