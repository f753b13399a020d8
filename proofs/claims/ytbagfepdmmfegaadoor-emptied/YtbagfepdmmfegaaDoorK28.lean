import Derived.Test.YtbagfepdmmfegaaDoorK26
set_option linter.unusedVariables false
set_option linter.unusedSimpArgs false
/- EACH BLOCK HAS ITS BYTES. -/
namespace Go.Proofs.YtbagfepdmmfegaaDoor
open Go.RowKit

/-- a farm, its parts named -/
structure FX (PA : World → Nat → (Nat → Prop) → Ti.St → Prop) (V : World) (fl : Nat) (foot fp : Nat → Prop) (S : Ti.St) (L : List Hb) (x : Nat) (v : Value) : Prop where
  hA : FarmAt PA V fl (fl + 1) foot S L
  b1 : V.heap[fl]? = some (.cells #[.pointer (some ⟨x, 0, none⟩), .int .i64 S.heaps, .int .i64 (S.sups.length : Nat), .int .i64 S.slack, v] 37 (0, 0))
  b2 : PA V x fp S
  b3 : V.ownsRow (fl + 1) 40 3 v L.length (encB L)
  b4 : ∀ k, fp k → foot k
  b5 : ¬ fp fl
  b6 : ∀ y ∈ L, ¬ fp y.g
  b7 : ∀ g, v.ownBlock = some g → foot g ∧ ¬ fp g ∧ ∀ y ∈ L, y.g ≠ g
theorem FarmAt.fx {PA : World → Nat → (Nat → Prop) → Ti.St → Prop} {V : World} {fl : Nat} {foot : Nat → Prop} {S : Ti.St} {L : List Hb} (h : FarmAt PA V fl (fl + 1) foot S L) : ∃ fp x v, FX PA V fl foot fp S L x v := by
  obtain ⟨x, v, fp, b1, b2, b3, b4, b5, b6, b7⟩ := h.box
  exact ⟨fp, x, v, h, b1, b2, b3, b4, b5, b6, b7⟩
theorem FX.keep {PA : World → Nat → (Nat → Prop) → Ti.St → Prop} {big : Prop} (F : Face PA big) {V V' : World} {fl : Nat} {foot fp : Nat → Prop} {S : Ti.St} {L : List Hb} {x : Nat} {v : Value} (h : FX PA V fl foot fp S L x v) (hE : Ext none1 V V') : FX PA V' fl foot fp S L x v :=
  ⟨h.hA.keep F hE (fun _ _ x => x) (fun x => x), hE.keep h.b1 (fun x => x), F.keep h.b2 hE (fun _ _ x => x) (fun x => x), ownsRow_ext h.b3 hE (fun _ _ x => x), h.b4, h.b5, h.b6, h.b7⟩
/-- behind a call that leaves all as it was -/
theorem FX.called {PA : World → Nat → (Nat → Prop) → Ti.St → Prop} {V w' : World} {fl : Nat} {foot fp fp' : Nat → Prop} {S : Ti.St} {L : List Hb} {x : Nat} {v : Value} (h : FX PA V fl foot fp S L x v)
    (hPA : PA w' x fp' S) (hE1 : Ext fp V w') (hn1 : ∀ k, fp' k → fp k ∨ (V.heap.size ≤ k ∧ k < w'.heap.size)) :
    ∃ foot', FX PA w' fl foot' fp' S L x v ∧ Ext foot V w' ∧ ∀ k, foot' k → foot k ∨ V.heap.size ≤ k := by
  have hlt := lt_of_heap h.b1
  have z1 := hE1.size
  have c1 : w'.heap[fl]? = _ := hE1.keep h.b1 h.b5
  have c3 := ownsRow_ext h.b3 hE1 (fun g hg => (h.b7 g hg).2.1)
  have c4 : ∀ k, fp' k → foot k ∨ (V.heap.size ≤ k ∧ k < w'.heap.size) := fun k hk => (hn1 k hk).imp (h.b4 k) id
  have c5 : ¬ fp' fl := fun hk => by
    rcases hn1 _ hk with q | q
    · exact h.b5 q
    · omega
  have c6 : ∀ y ∈ L, ¬ fp' y.g := fun z hz hk => by
    rcases hn1 _ hk with p | p
    · exact h.b6 z hz p
    · have := h.hA.flt _ (h.hA.rows z hz).2.1; omega
  have c7 : ∀ g, v.ownBlock = some g → (foot g ∨ (V.heap.size ≤ g ∧ g < w'.heap.size)) ∧ ¬ fp' g ∧ ∀ y ∈ L, y.g ≠ g := fun g hg => by
    obtain ⟨q1, q2, q3⟩ := h.b7 g hg
    refine ⟨.inl q1, fun hk => ?_, q3⟩
    rcases hn1 _ hk with p | p
    · exact q2 p
    · have := h.hA.flt _ q1; omega
  refine ⟨fun k => foot k ∨ (V.heap.size ≤ k ∧ k < w'.heap.size), ⟨⟨⟨x, v, fp', c1, hPA, c3, c4, c5, c6, c7⟩, ?_, .inl h.hA.ffl, ?_, h.hA.low, ?_, h.hA.dist, h.hA.ok⟩, c1, hPA, c3, c4, c5, c6, c7⟩, hE1.mono (fun k _ hk => h.b4 k hk), ?_⟩
  · rintro k (hk | hk)
    · have := h.hA.flt k hk; omega
    · omega
  · rintro (hk | hk)
    · exact h.hA.fpos hk
    · omega
  · intro z hz
    obtain ⟨r1, r2, r3⟩ := h.hA.rows z hz
    exact ⟨r1, .inl r2, hE1.keep r3 (h.b6 z hz)⟩
  · rintro k (hk | hk)
    · exact .inl hk
    · exact .inr hk.1

/-- a byte of a block is loaded -/
theorem FX.load {PA : World → Nat → (Nat → Prop) → Ti.St → Prop} {big : Prop} (F : Face PA big) {V : World} {fl : Nat} {foot fp : Nat → Prop} {S : Ti.St} {L : List Hb} {x : Nat} {v : Value} (h : FX PA V fl foot fp S L x v) (y : Hb) (hy : y ∈ L) (k : Nat) (hk : k < y.b.size.toNat) (w : World) (hw : Ext none1 V w) :
    Calls Tryd.prog 22 #[.pointer (some ⟨x, 0, none⟩), .int .i64 (y.b.at_ + (k : Int))] w fun e w' => e = .returned (.tuple #[.int .i64 (y.b.bytes[k]?.getD 0), .int .i64 0]) ∧ Ext fp V w' ∧ ∃ foot' fp', FX PA w' fl foot' fp' S L x v ∧ Ext foot V w' ∧ ∀ k, foot' k → foot k ∨ V.heap.size ≤ k := by
  have hw1 : 1 ≤ y.b.size ∧ y.b.size ≤ 256 ∧ 0 ≤ y.b.at_ ∧ y.b.at_ + y.b.size ≤ 64 * S.sups.length := Ti.within_of S h.hA.ok.inv.toInv0 (h.hA.ok.mem (List.mem_map.2 ⟨y, hy, rfl⟩))
  have h16 := h.hA.ok.inv.f16
  have hl := h.hA.ok.load (b := y.b) (List.mem_map.2 ⟨y, hy, rfl⟩) k hk
  have hx := h.keep F hw
  refine (F.load w x fp S (y.b.at_ + (k : Int)) hx.b2 h.hA.ok.inv (by omega) (by omega)).mono ?_
  rintro e w' ⟨rfl, fp', p1, p2, p3⟩
  obtain ⟨foot', q1, q2, q3⟩ := hx.called p1 p2 p3
  rw [hl]
  refine ⟨rfl, (hw.mono (fun _ _ x => x.elim)).trans p2, foot', fp', q1, (hw.mono (fun _ _ x => x.elim)).trans q2, fun j hj => (q3 j hj).imp id (fun h => Nat.le_trans hw.size h)⟩

set_option maxRecDepth 100000 in
set_option maxHeartbeats 8000000 in
theorem kept_any {PA : World → Nat → (Nat → Prop) → Ti.St → Prop} {big : Prop} (F : Face PA big) (V : World) (fl : Nat) (foot : Nat → Prop) (S : Ti.St) (L : List Hb) (hA : FarmAt PA V fl (fl + 1) foot S L) :
    Calls Tryd.prog 16 #[.pointer (some ⟨fl, 0, none⟩)] V fun e V' => e = .returned (.bool true) ∧ ∃ foot', FarmAt PA V' fl (fl + 1) foot' S L ∧ Ext foot V V' ∧ ∀ k, foot' k → foot k ∨ V.heap.size ≤ k := by
  have hfew := hA.few
  obtain ⟨fp, x, v, hX⟩ := hA.fx
  obtain ⟨pv, capv, rfl, hpv⟩ : ∃ pv capv, v = .slice pv L.length capv ∧ (0 < L.length → ∃ g, pv = some ⟨g, 0, none⟩) := by
    rcases hX.b3.2 with ⟨rfl, e⟩ | ⟨g, cap, cur, rfl, _⟩
    · exact ⟨none, 0, by rw [e], fun h => by omega⟩
    · exact ⟨_, cap, rfl, fun _ => ⟨g, rfl⟩⟩
  have HX : Hid _ := hX
  clear hX hA
  go_enter Tryd.func16, Tryd.ntmps16
  go_wp2
  go_loopw [3, 4, 5, 6, 7] (fun i _ _ _ _ wr => ∃ (j : Nat) (foot' fp' : Nat → Prop), j ≤ L.length ∧ i = .int .i64 j ∧ FX PA wr fl foot' fp' S L x (.slice pv L.length capv) ∧ Ext foot V wr ∧ ∀ k, foot' k → foot k ∨ V.heap.size ≤ k)
    (fun i _ _ _ _ _ => L.length - (intOf i).toNat)
  case atStart => exact ⟨0, foot, fp, Nat.zero_le _, rfl, HX.out, Ext.refl _ _, fun k hk => .inl hk⟩
  case round =>
    obtain ⟨j, foot', fp', hj, rfl, hX, hE, hn⟩ := hrel
    have c4 := cell_of hX.b1 4
    simp at c4
    by_cases hlt : j < L.length
    · obtain ⟨g, rfl⟩ := hpv (by omega)
      obtain ⟨y, hy⟩ : ∃ y, L[j]? = some y := ⟨_, List.getElem?_eq_getElem hlt⟩
      have hym := List.mem_of_getElem? hy
      have hge := encB_get L j y hy
      have g0 : wr.cell? ⟨g, j * 3, none⟩ = some (.int .i64 y.b.at_) := by have := hX.b3.cells (g := g) rfl _ _ hge.1; rwa [addr_add] at this
      have g1 : wr.cell? ⟨g, j * 3 + 1, none⟩ = some (.int .i64 y.b.size) := by have := hX.b3.cells (g := g) rfl _ _ hge.2.1; rwa [addr_add] at this
      have g2 : wr.cell? ⟨g, j * 3 + 2, none⟩ = some (.slice (some ⟨y.g, 0, none⟩) y.b.size.toNat y.b.size.toNat) := by have := hX.b3.cells (g := g) rfl _ _ hge.2.2; rwa [addr_add] at this
      have hlt' : (j : Int) < (L.length : Int) := by omega
      have hw1 : 1 ≤ y.b.size ∧ y.b.size ≤ 256 ∧ 0 ≤ y.b.at_ ∧ y.b.at_ + y.b.size ≤ 64 * S.sups.length := Ti.within_of S hX.hA.ok.inv.toInv0 (hX.hA.ok.mem (List.mem_map.2 ⟨y, hym, rfl⟩))
      have h16 := hX.hA.ok.inv.f16
      have hlen : y.b.bytes.length = y.b.size.toNat := hX.hA.ok.len y.b (List.mem_map.2 ⟨y, hym, rfl⟩)
      have hEa : Ext none1 wr (wr.alloc (.cells #[.int .i64 y.b.at_, .int .i64 y.b.size, .slice (some ⟨y.g, 0, none⟩) y.b.size.toNat y.b.size.toNat] 40)) := (Ext.refl _ _).alloc _
      have hbx := heap_alloc_new wr (.cells #[.int .i64 y.b.at_, .int .i64 y.b.size, .slice (some ⟨y.g, 0, none⟩) y.b.size.toNat y.b.size.toNat] 40)
      have hnb : ¬ foot' wr.heap.size := fun h => by have := hX.hA.flt _ h; omega
      have HX1 : Hid _ := hX.keep F hEa
      have HE1 : Hid _ := hE.trans (hEa.mono (fun _ _ x => x.elim))
      have Hbx : Hid _ := hbx
      have hVle : V.heap.size ≤ wr.heap.size := hE.size
      have hltb := lt_of_heap Hbx.out
      clear hX hEa hbx hge
      go_wp2
      obtain ⟨bx, hbxd⟩ : ∃ bx, bx = wr.heap.size := ⟨_, rfl⟩
      rw [← hbxd] at Hbx hnb hVle hltb ⊢
      clear hbxd
      go_loopw [5, 6, 7] (fun t _ _ w2 => ∃ (k : Nat) (foot2 fp2 : Nat → Prop), k ≤ y.b.size.toNat ∧ t = .int .i64 k ∧ FX PA w2 fl foot2 fp2 S L x (.slice (some ⟨g, 0, none⟩) L.length capv) ∧ Ext foot V w2 ∧ (∀ k, foot2 k → foot k ∨ V.heap.size ≤ k) ∧ ¬ foot2 bx ∧ bx < w2.heap.size ∧ w2.heap[bx]? = some (.cells #[.int .i64 y.b.at_, .int .i64 y.b.size, .slice (some ⟨y.g, 0, none⟩) y.b.size.toNat y.b.size.toNat] 40 (0, 0)))
        (fun t _ _ _ => y.b.size.toNat - (intOf t).toNat)
      case atStart => exact ⟨0, foot', fp', Nat.zero_le _, rfl, HX1.out, HE1.out, hn, hnb, hltb, Hbx.out⟩
      case round =>
        obtain ⟨k, foot2, fp2, hk, rfl, hX, hE2, hn2, hnb2, hwl, hbx⟩ := hrel
        have x0 := cell_of hbx 0
        have x1 := cell_of hbx 1
        have x2 := cell_of hbx 2
        have f0 := cell_of hX.b1 0
        simp at x0 x1 x2 f0
        by_cases hkl : k < y.b.size.toNat
        · have hkl' : (k : Int) < y.b.size := by omega
          have hwr : IntKind.i64.wrap (y.b.at_ + (k : Int)) = y.b.at_ + (k : Int) := by rw [IntKind.wrap_i64]; omega
          have Hld : Hid _ := hX.load F y hym k hkl
          have hlf := lt_of_heap hX.b1
          have hcc : ∀ (w' : World) (bb o : Nat), Ext fp2 wr w' → bb < wr.heap.size → ¬ fp2 bb → w'.cell? ⟨bb, o, none⟩ = wr.cell? ⟨bb, o, none⟩ := fun w' bb o hE hl hn => by
            unfold World.cell?
            simp only [hE.block bb hl hn]
          have k1 : ∀ (w' : World) (o : Nat), Ext fp2 wr w' → w'.cell? ⟨fl, o, none⟩ = wr.cell? ⟨fl, o, none⟩ := fun w' o hE => hcc w' fl o hE hlf hX.b5
          have k2 : ∀ (w' : World) (o : Nat), Ext fp2 wr w' → w'.cell? ⟨bx, o, none⟩ = wr.cell? ⟨bx, o, none⟩ := fun w' o hE => hcc w' bx o hE hwl (fun h => hnb2 (hX.b4 _ h))
          have hry := hX.hA.rows y hym
          have yb : wr.cell? ⟨y.g, k, none⟩ = some (.int .i64 (y.b.bytes[k]?.getD 0)) := by
            rw [cell_of hry.2.2 k]
            have : k < y.b.bytes.length := by omega
            simp [this]
          have k3 : ∀ (w' : World) (o : Nat), Ext fp2 wr w' → w'.cell? ⟨y.g, o, none⟩ = wr.cell? ⟨y.g, o, none⟩ := fun w' o hE => hcc w' _ o hE (hX.hA.flt _ hry.2.1) (hX.b6 y hym)
          have Hbx2 : Hid _ := hbx
          have HE2 : Hid _ := hE2
          have Hld : Hid _ := Hld.out
          have hkz : k < y.b.size.toNat := hkl
          generalize y.b.bytes[k]?.getD 0 = z at *
          clear hX hcc hry hbx HX1 HE1 Hbx
          go_wp2_with fail
          go_region_held3 (fun w' => Ext fp2 wr w') (first | assumption | exact (Ext.refl _ _).drew)
            (first | (go_at_call 22; refine Calls.mono (Hld.out _ (Ext.refl _ _).drew) ?_; rintro e w' ⟨rfl, hxx, hpp⟩))
          have x2' := k2 w' 2 hxx
          have yb' := k3 w' k hxx
          rw [x2] at x2'
          rw [yb] at yb'
          have HP : Hid _ := hpp
          clear hpp k1 k2 k3 x0 x1 x2 f0 yb Hld
          go_wp2
          go_roundw
          case rel =>
            obtain ⟨foot3, fp3, q1, q2, q3⟩ := HP.out
            refine ⟨k + 1, foot3, fp3, by omega, by go_num, q1, HE2.out.trans' q2 (fun j hj hh => ?_), fun j hj => ?_, fun hh => ?_, by have := q2.size; omega, q2.keep Hbx2.out hnb2⟩
            · rcases hn2 j hh with r | r
              · exact r
              · omega
            · rcases q3 j hj with r | r
              · exact hn2 j r
              · have := HE2.out.size; exact .inr (by omega)
            · rcases q3 _ hh with r | r
              · exact hnb2 r
              · omega
          case measure => simp [intOf]; omega
        · obtain rfl : k = y.b.size.toNat := by omega
          have hkn : ¬ ((y.b.size.toNat : Nat) : Int) < y.b.size := by omega
          have HP : Hid _ := (show ∃ foot' fp', FX PA wr fl foot' fp' S L x (.slice (some ⟨g, 0, none⟩) L.length capv) ∧ Ext foot V wr ∧ ∀ k, foot' k → foot k ∨ V.heap.size ≤ k from ⟨foot2, fp2, hX, hE2, hn2⟩)
          clear hX hbx HX1 HE1 Hbx
          go_wp2
          go_roundw
          case rel =>
            obtain ⟨f3, p3, q1, q2, q3⟩ := HP.out
            exact ⟨j + 1, f3, p3, by omega, by go_num, q1, q2, q3⟩
          case measure => simp [intOf]; omega
    · obtain rfl : j = L.length := by omega
      have HP : Hid _ := (show ∃ foot', FarmAt PA wr fl (fl + 1) foot' S L ∧ Ext foot V wr ∧ ∀ k, foot' k → foot k ∨ V.heap.size ≤ k from ⟨foot', hX.hA, hE, hn⟩)
      clear hX
      go_wp2
      go_ret
      exact ⟨rfl, HP.out⟩

theorem Mid.kept {PA : World → Nat → (Nat → Prop) → Ti.St → Prop} {W V : World} {fl : Nat} {h n s : Int} {S : Ti.St} {L : List Hb} {big : Prop} (F : Face PA big) (hm : Mid PA W V fl h n s S L) :
    Calls Tryd.prog 16 #[.pointer (some ⟨fl, 0, none⟩)] V fun e V' => e = .returned (.bool true) ∧ Mid PA W V' fl h n s S L := by
  obtain ⟨foot, hA, hE, hf, hfl, r⟩ := hm
  refine (kept_any F V fl foot S L hA).mono ?_
  rintro e V' ⟨rfl, foot', q1, q2, q3⟩
  refine ⟨rfl, foot', q1, hE.trans' q2 (fun k hk hk' => by have := hf k hk'; omega), fun k hk => ?_, hfl, r⟩
  rcases q3 k hk with q | q
  · exact hf k q
  · have := hE.size; omega
end Go.Proofs.YtbagfepdmmfegaaDoor
