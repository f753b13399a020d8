import Derived.Test.YtbagfepdmmfegaaDoorK01
set_option linter.unusedVariables false
set_option linter.unusedSimpArgs false
/- WHAT USERS HAVE OF A TITHE, and that it is what the tithe has. Plain: no Go. -/
namespace Ti

/-- a block that a user has: its address, its size, its bytes as they were stored last -/
structure Bl where
  at_ : Int
  size : Int
  bytes : List Int
def Bl.key (b : Bl) : Int × Int := (b.at_, b.size)

structure FarmOk (S : St) (L : List Bl) : Prop where
  inv : Inv S
  perm : (L.map Bl.key).Perm S.blocks
  len : ∀ b ∈ L, b.bytes.length = b.size.toNat
  val : ∀ b ∈ L, ∀ k : Nat, k < b.size.toNat → S.byte (b.at_ + k).toNat = b.bytes[k]?.getD 0

theorem FarmOk.mem {S : St} {L : List Bl} (h : FarmOk S L) {b : Bl} (hb : b ∈ L) : b.key ∈ S.blocks := h.perm.mem_iff.1 (List.mem_map.2 ⟨b, hb, rfl⟩)

/-! ### blocks have no byte in common, and lie within memory -/
theorem small_end (b : Int × Int) (h0 : 0 ≤ b.1) (h : b.2 ≤ 32) (ha : (b.1 % 64) % width (clsOf b.2) = 0) : b.1 + b.2 ≤ 64 * (b.1 / 64) + 64 := by
  have hw := cls_width b.2 h
  rcases width_slots (clsOf b.2) with ⟨w, _⟩ | ⟨w, _⟩ | ⟨w, _⟩ <;> rw [w] at ha hw <;> omega
theorem apart_of (S : St) (hI : Inv0 S) {a b : Int × Int} (ha : a ∈ S.blocks) (hb : b ∈ S.blocks) (hl : a.1 < b.1) : a.1 + a.2 ≤ b.1 := by
  by_cases h : 32 < a.2
  · exact hI.large a ha b hb h hl
  · obtain ⟨a1, a2, a3, a4, a5, _⟩ := hI.ok a ha
    obtain ⟨b1, b2, b3, b4, b5, b6⟩ := hI.ok b hb
    obtain ⟨as, ac, aw⟩ := a5 (by omega)
    have he := small_end a a3 (by omega) aw
    by_cases e : a.1 / 64 = b.1 / 64
    · by_cases hb2 : 32 < b.2
      · have := (b6 hb2).1; omega
      · obtain ⟨bs, bc, bw⟩ := b5 (by omega)
        rw [← e, ac] at bc
        rw [← bc] at bw
        have hw := cls_width a.2 (by omega)
        rcases width_slots (clsOf a.2) with ⟨w, _⟩ | ⟨w, _⟩ | ⟨w, _⟩ <;> rw [w] at aw bw hw <;> omega
    · omega
theorem within_of (S : St) (hI : Inv0 S) {b : Int × Int} (hb : b ∈ S.blocks) : 1 ≤ b.2 ∧ b.2 ≤ 256 ∧ 0 ≤ b.1 ∧ b.1 + b.2 ≤ 64 * S.sups.length := by
  obtain ⟨b1, b2, b3, b4, b5, b6⟩ := hI.ok b hb
  refine ⟨b1, b2, b3, ?_⟩
  by_cases h : 32 < b.2
  · exact (b6 h).2.1
  · have := small_end b b3 (by omega) (b5 (by omega)).2.2
    omega
theorem same_of (S : St) (hI : Inv0 S) {a b : Int × Int} (ha : a ∈ S.blocks) (hb : b ∈ S.blocks) (h : a.1 = b.1) : a = b := by
  obtain ⟨i, hi, rfl⟩ := mem_bk ha
  obtain ⟨j, hj, rfl⟩ := mem_bk hb
  rcases Nat.lt_trichotomy i j with e | e | e
  · have := bk_lt hI.sorted e hj; omega
  · rw [e]
  · have := bk_lt hI.sorted e hi; omega

theorem byteTo_spec (bs : List (Int × Int)) (a : Int) (n : Nat) : byteTo bs a n = true ↔ ∃ k, k < n ∧ hasB (bk bs k) a = true := by
  induction n with
  | zero => simp [byteTo]
  | succ n ih =>
    simp only [byteTo, Bool.or_eq_true, ih]
    constructor
    · rintro (⟨k, hk, h⟩ | h)
      · exact ⟨k, by omega, h⟩
      · exact ⟨n, by omega, h⟩
    · rintro ⟨k, hk, h⟩
      by_cases e : k = n
      · subst e; exact .inr h
      · exact .inl ⟨k, by omega, h⟩
theorem byte1_spec (S : St) (a : Int) : S.byte1 a = true ↔ ∃ b ∈ S.blocks, b.1 ≤ a ∧ a < b.1 + b.2 := by
  unfold St.byte1
  rw [byteTo_spec]
  constructor
  · rintro ⟨k, hk, h⟩
    exact ⟨_, bk_mem hk, by simpa [hasB] using h⟩
  · rintro ⟨b, hb, h⟩
    obtain ⟨k, hk, rfl⟩ := mem_bk hb
    exact ⟨k, hk, by simpa [hasB] using h⟩

/-! ### a block more -/
theorem perm_ins (b : Int × Int) (l : List (Int × Int)) : (ins b l).Perm (b :: l) := by
  induction l with
  | nil => exact List.Perm.refl _
  | cons x r ih =>
    simp only [ins]
    split
    · exact List.Perm.refl _
    · exact (List.Perm.cons x ih).trans (List.Perm.swap b x r)
theorem zeroTo_get (l : List Int) (a k i : Nat) : (zeroTo l a k)[i]?.getD 0 = if a ≤ i ∧ i < a + k then 0 else l[i]?.getD 0 := by
  induction k with
  | zero => rw [if_neg (by omega)]; rfl
  | succ k ih =>
    simp only [zeroTo, List.getElem?_set]
    by_cases e : a + k = i
    · rw [if_pos e, if_pos (show a ≤ i ∧ i < a + (k + 1) by omega)]
      split <;> rfl
    · rw [if_neg e, ih]
      by_cases h : a ≤ i ∧ i < a + k
      · rw [if_pos h, if_pos (by omega)]
      · rw [if_neg h, if_neg (by omega)]

/-- what a right Malloc does: it is refused, or there is a block more, in no other's bytes, its bytes 0 -/
theorem malloc_spec (S : St) (hI : Inv0 S) (w size : Int) (hw : 0 ≤ w) (hw' : w ≤ 1000) (h1 : 1 ≤ size) (h2 : size ≤ 256) :
    S.malloc w size = ((0, 2), S) ∨ ∃ (a : Int) (T : St), S.malloc w size = ((a, 0), T) ∧ T.blocks = ins (a, size) S.blocks ∧ T.bytes = zeroTo S.bytes a.toNat size.toNat ∧
      T.heaps = S.heaps ∧ T.slack = S.slack ∧ T.sups.length = S.sups.length := by
  have e0 : S.malloc w size = if 32 < size then S.mallocLarge size else S.mallocSmall w size := by
    unfold St.malloc
    rw [if_neg (by omega)]
  rw [e0]
  by_cases h : 32 < size
  · rw [if_pos h]
    simp only [St.mallocLarge]
    split
    · exact .inl rfl
    · exact .inr ⟨_, _, rfl, rfl, rfl, rfl, rfl, rfl⟩
  · rw [if_neg h]
    rcases mallocSmall_spec S hI w size h1 (by omega) with ⟨_, e⟩ | ⟨f, n, _, _, _, _, _, _, e⟩
    · exact .inl e
    · refine .inr ⟨_, _, e, rfl, rfl, rfl, rfl, ?_⟩
      exact len_setSup _ _ _

theorem FarmOk.malloc {S : St} {L : List Bl} (h : FarmOk S L) {w size a : Int} {T : St} (hw : 0 ≤ w) (hw' : w ≤ 1000) (h1 : 1 ≤ size) (h2 : size ≤ 256) (e : S.malloc w size = ((a, 0), T)) :
    FarmOk T (L ++ [⟨a, size, List.replicate size.toNat 0⟩]) ∧ T.heaps = S.heaps ∧ T.slack = S.slack ∧ T.sups.length = S.sups.length := by
  rcases malloc_spec S h.inv.toInv0 w size hw hw' h1 h2 with e' | ⟨a', T', e', eb, ey, hh, hs, hl⟩
  · rw [e] at e'; simp at e'
  · rw [e] at e'
    simp only [Prod.mk.injEq, and_true] at e'
    obtain ⟨rfl, rfl⟩ := e'
    have hT : Inv T := by have := inv_malloc S h.inv w size; rwa [e] at this
    have hmem : (a, size) ∈ T.blocks := by rw [eb]; exact (mem_ins _ _ _).2 (.inl rfl)
    have hin := within_of T hT.toInv0 hmem
    have hold : ∀ b ∈ L, b.key ∈ T.blocks := fun b hb => by rw [eb]; exact (mem_ins _ _ _).2 (.inr (h.mem hb))
    have hpw := hT.sorted
    refine ⟨⟨hT, ?_, ?_, ?_⟩, hh, hs, hl⟩
    · rw [eb]
      refine List.Perm.trans ?_ (perm_ins _ _).symm
      rw [List.map_append]
      exact (List.perm_append_comm).trans (List.Perm.cons _ h.perm)
    · intro b hb
      rcases List.mem_append.1 hb with hb | hb
      · exact h.len b hb
      · obtain rfl := List.mem_singleton.1 hb
        simp
    · intro b hb k hk
      unfold St.byte
      rw [ey, zeroTo_get]
      rcases List.mem_append.1 hb with hb | hb
      · have hb' := hold b hb
        have hne : b.key ≠ (a, size) := by
          intro hc
          have hn : ∀ l : List (Int × Int), (a, size) ∈ l → ¬ (ins (a, size) l).Pairwise (fun x y => x.1 < y.1) := fun l hm hp => by
            have := (perm_ins (a, size) l).countP_eq (fun x => x.1 == a)
            rw [countP_addr _ hp a, List.countP_cons] at this
            have h2 : 0 < l.countP (fun x => x.1 == a) := List.countP_pos_iff.2 ⟨_, hm, by simp⟩
            simp at this
            split at this <;> omega
          rw [eb] at hpw
          exact hn _ (hc ▸ h.mem hb) hpw
        have hin' := within_of T hT.toInv0 hb'
        have hd : b.at_ + b.size ≤ a ∨ a + size ≤ b.at_ := by
          rcases Int.lt_trichotomy b.at_ a with hc | hc | hc
          · exact .inl (apart_of T hT.toInv0 hb' hmem hc)
          · exact absurd (same_of T hT.toInv0 hb' hmem hc) hne
          · exact .inr (apart_of T hT.toInv0 hmem hb' hc)
        simp only [Bl.key] at hin'
        simp only at hin
        rw [if_neg (by omega)]
        exact h.val b hb k hk
      · obtain rfl := List.mem_singleton.1 hb
        simp only at hin hk ⊢
        rw [if_pos (by omega)]
        simp [hk]
end Ti

/- FREE, STORE AND LOAD, as users see them. Plain: no Go. -/
namespace Ti

theorem give_same (S : St) (h c : Int) : (S.give h c).blocks = S.blocks ∧ (S.give h c).bytes = S.bytes ∧ (S.give h c).heaps = S.heaps ∧ (S.give h c).slack = S.slack ∧ (S.give h c).sups.length = S.sups.length := by
  unfold St.give
  split
  · exact ⟨rfl, rfl, rfl, rfl, len_setSup _ _ _⟩
  · exact ⟨rfl, rfl, rfl, rfl, rfl⟩
theorem free_spec' (S : St) (a : Int) (h : 0 ≤ atI S.blocks a) : (S.freeAt a).1 = 0 ∧ (S.freeAt a).2.blocks = (S.less (atI S.blocks a).toNat).blocks ∧ (S.freeAt a).2.bytes = S.bytes ∧
    (S.freeAt a).2.heaps = S.heaps ∧ (S.freeAt a).2.slack = S.slack ∧ (S.freeAt a).2.sups.length = S.sups.length := by
  rw [freeAt_eq S a h]
  split
  · exact ⟨rfl, rfl, rfl, rfl, rfl, rfl⟩
  · obtain ⟨a1, a2, a3, a4, a5⟩ := sweepTo_same ((S.less (atI S.blocks a).toNat).give (S.sup (a / 64).toNat).heap (S.sup (a / 64).toNat).cls) ((S.less (atI S.blocks a).toNat).give (S.sup (a / 64).toNat).heap (S.sup (a / 64).toNat).cls).sups.length
    obtain ⟨b1, b2, b3, b4, b5⟩ := give_same (S.less (atI S.blocks a).toNat) (S.sup (a / 64).toNat).heap (S.sup (a / 64).toNat).cls
    exact ⟨rfl, a1.trans b1, a2.trans b2, a3.trans b3, a4.trans b4, a5.trans b5⟩
theorem less_perm (S : St) (k : Nat) (hk : k < S.blocks.length) : S.blocks.Perm (bk S.blocks k :: (S.less k).blocks) := by
  have e : S.blocks = S.blocks.take k ++ (bk S.blocks k :: S.blocks.drop (k + 1)) := by
    have : bk S.blocks k = S.blocks[k] := by simp [bk, hk]
    rw [this, ← List.drop_eq_getElem_cons hk, List.take_append_drop]
  conv => lhs; rw [e]
  exact List.perm_middle

/-- a user gives a block back -/
theorem FarmOk.free {S : St} {L : List Bl} (h : FarmOk S L) {i : Nat} {b : Bl} (hb : L[i]? = some b) :
    (S.freeAt b.at_).1 = 0 ∧ FarmOk (S.freeAt b.at_).2 (L.take i ++ L.drop (i + 1)) ∧ (S.freeAt b.at_).2.heaps = S.heaps ∧ (S.freeAt b.at_).2.slack = S.slack ∧ (S.freeAt b.at_).2.sups.length = S.sups.length := by
  have hi : i < L.length := (List.getElem?_eq_some_iff.1 hb).1
  have hg : L[i] = b := (List.getElem?_eq_some_iff.1 hb).2
  have hm := h.mem (List.mem_of_getElem? hb)
  have h0 : 0 ≤ atI S.blocks b.at_ := (atI_nn _ _).2 ⟨_, hm, rfl⟩
  obtain ⟨e1, e2, e3, e4, e5, e6⟩ := free_spec' S b.at_ h0
  obtain ⟨k1, k2⟩ := atI_at S.blocks b.at_ h0
  have hk : bk S.blocks (atI S.blocks b.at_).toNat = b.key := same_of S h.inv.toInv0 (bk_mem k1) hm k2
  have hL : L = L.take i ++ (b :: L.drop (i + 1)) := by rw [← hg, ← List.drop_eq_getElem_cons hi, List.take_append_drop]
  have hLp : L.Perm (b :: (L.take i ++ L.drop (i + 1))) := by conv => lhs; rw [hL]
                                                              exact List.perm_middle
  have hsub : ∀ x ∈ L.take i ++ L.drop (i + 1), x ∈ L := fun x hx => hLp.mem_iff.2 (List.mem_cons_of_mem _ hx)
  refine ⟨e1, ⟨inv_free S h.inv _, ?_, fun x hx => h.len x (hsub x hx), fun x hx k hk => ?_⟩, e4, e5, e6⟩
  · rw [e2]
    have p1 := less_perm S _ k1
    rw [hk] at p1
    have p2 : (b.key :: (L.take i ++ L.drop (i + 1)).map Bl.key).Perm (b.key :: (S.less (atI S.blocks b.at_).toNat).blocks) :=
      ((hLp.map Bl.key).symm.trans h.perm).trans p1
    exact p2.cons_inv
  · unfold St.byte
    rw [e3]
    exact h.val x (hsub x hx) k hk

theorem FarmOk.byte1 {S : St} {L : List Bl} (h : FarmOk S L) (a : Int) : S.byte1 a = true ↔ ∃ b ∈ L, b.at_ ≤ a ∧ a < b.at_ + b.size := by
  rw [byte1_spec]
  constructor
  · rintro ⟨x, hx, hy⟩
    obtain ⟨b, hb, rfl⟩ := List.mem_map.1 (h.perm.mem_iff.2 hx)
    exact ⟨b, hb, hy⟩
  · rintro ⟨b, hb, hy⟩
    exact ⟨_, h.mem hb, hy⟩
theorem FarmOk.begins {S : St} {L : List Bl} (h : FarmOk S L) (a : Int) : 0 ≤ atI S.blocks a ↔ ∃ b ∈ L, b.at_ = a := by
  rw [atI_nn]
  constructor
  · rintro ⟨x, hx, hy⟩
    obtain ⟨b, hb, rfl⟩ := List.mem_map.1 (h.perm.mem_iff.2 hx)
    exact ⟨b, hb, hy⟩
  · rintro ⟨b, hb, hy⟩
    exact ⟨_, h.mem hb, hy⟩

/-- what a user loads of a block is what was stored last -/
theorem FarmOk.load {S : St} {L : List Bl} (h : FarmOk S L) {b : Bl} (hb : b ∈ L) (k : Nat) (hk : k < b.size.toNat) : S.load (b.at_ + k) = (b.bytes[k]?.getD 0, 0) := by
  have : S.byte1 (b.at_ + k) = true := (h.byte1 _).2 ⟨b, hb, by omega, by omega⟩
  unfold St.load
  rw [if_pos this, h.val b hb k hk]

theorem byte_set (S : St) (a : Nat) (v : Int) (i : Nat) : ({ S with bytes := S.bytes.set a v } : St).byte i = if a = i ∧ i < S.bytes.length then v else S.byte i := by
  unfold St.byte
  simp only [List.getElem?_set]
  by_cases e : a = i
  · subst e
    by_cases hl : a < S.bytes.length
    · simp [hl]
    · simp [hl]
  · simp [e]

/-- two of the users' blocks have no byte in common -/
theorem FarmOk.apart {S : St} {L : List Bl} (h : FarmOk S L) {i j : Nat} {a b : Bl} (ha : L[i]? = some a) (hb : L[j]? = some b) (hij : i ≠ j) : a.at_ + a.size ≤ b.at_ ∨ b.at_ + b.size ≤ a.at_ := by
  have ma := h.mem (List.mem_of_getElem? ha)
  have mb := h.mem (List.mem_of_getElem? hb)
  rcases Int.lt_trichotomy a.at_ b.at_ with e | e | e
  · exact .inl (apart_of S h.inv.toInv0 ma mb e)
  · exfalso
    have key : ∀ i j : Nat, i < j → ∀ a b : Bl, L[i]? = some a → L[j]? = some b → a.at_ = b.at_ → False := fun i j hij a b ha hb e => by
      have hc : (L.map Bl.key).countP (fun x => x.1 == a.at_) = S.blocks.countP (fun x => x.1 == a.at_) := h.perm.countP_eq _
      rw [countP_addr _ h.inv.sorted] at hc
      have hi : i < L.length := (List.getElem?_eq_some_iff.1 ha).1
      have hj : j < L.length := (List.getElem?_eq_some_iff.1 hb).1
      have c1 : 0 < ((L.take j).map Bl.key).countP (fun x => x.1 == a.at_) :=
        List.countP_pos_iff.2 ⟨a.key, List.mem_map.2 ⟨a, List.mem_of_getElem? (i := i) (by rw [List.getElem?_take_of_lt hij]; exact ha), rfl⟩, by simp [Bl.key]⟩
      have c2 : 0 < ((L.drop j).map Bl.key).countP (fun x => x.1 == a.at_) :=
        List.countP_pos_iff.2 ⟨b.key, List.mem_map.2 ⟨b, List.mem_of_getElem? (i := 0) (by rw [List.getElem?_drop]; exact hb), rfl⟩, by simp [Bl.key, e]⟩
      have c3 : (L.map Bl.key).countP (fun x => x.1 == a.at_) = ((L.take j).map Bl.key).countP (fun x => x.1 == a.at_) + ((L.drop j).map Bl.key).countP (fun x => x.1 == a.at_) := by
        rw [← List.countP_append, ← List.map_append, List.take_append_drop]
      split at hc <;> omega
    rcases Nat.lt_or_gt_of_ne hij with hl | hl
    · exact key i j hl a b ha hb e
    · exact key j i hl b a hb ha e.symm
  · exact .inr (apart_of S h.inv.toInv0 mb ma e)

/-- a user stores a byte into a block -/
theorem FarmOk.store {S : St} {L : List Bl} (h : FarmOk S L) {j : Nat} {b : Bl} (hb : L[j]? = some b) (i : Nat) (hi : i < b.size.toNat) (v : Int) (v0 : 0 ≤ v) (v1 : v ≤ 255) :
    (S.store (b.at_ + i) v).1 = 0 ∧ FarmOk (S.store (b.at_ + i) v).2 (L.set j ⟨b.at_, b.size, b.bytes.set i v⟩) ∧
      (S.store (b.at_ + i) v).2 = { S with bytes := S.bytes.set (b.at_ + i).toNat v } := by
  have hbm := List.mem_of_getElem? hb
  have h1 : S.byte1 (b.at_ + i) = true := (h.byte1 _).2 ⟨b, hbm, by omega, by omega⟩
  have e : S.store (b.at_ + i) v = (0, { S with bytes := S.bytes.set (b.at_ + i).toNat v }) := by
    unfold St.store
    rw [if_neg (by omega), if_pos h1]
  have hinv := inv_store S h.inv (b.at_ + i) v
  rw [e] at hinv ⊢
  have hlt : j < L.length := (List.getElem?_eq_some_iff.1 hb).1
  have hbin := within_of S h.inv.toInv0 (h.mem hbm)
  simp only [Bl.key] at hbin
  have hbz := h.inv.bz
  have hblen := h.len b hbm
  refine ⟨rfl, ⟨hinv, ?_, fun x hx => ?_, fun x hx k hk => ?_⟩, rfl⟩
  · have : (L.set j ⟨b.at_, b.size, b.bytes.set i v⟩).map Bl.key = L.map Bl.key := by
      rw [List.map_set]
      apply List.ext_getElem?
      intro m
      rw [List.getElem?_set]
      by_cases hm : j = m
      · subst hm
        have hg : L[j] = b := (List.getElem?_eq_some_iff.1 hb).2
        simp [hlt, Bl.key, hg]
      · rw [if_neg hm]
    rw [this]
    exact h.perm
  · obtain ⟨m, hm⟩ := List.getElem?_of_mem hx
    rw [List.getElem?_set] at hm
    by_cases e : j = m
    · subst e
      simp [hlt] at hm
      subst hm
      simp [hblen]
    · rw [if_neg e] at hm
      exact h.len x (List.mem_of_getElem? hm)
  · obtain ⟨m, hm⟩ := List.getElem?_of_mem hx
    rw [List.getElem?_set] at hm
    rw [byte_set]
    by_cases e : j = m
    · subst e
      simp [hlt] at hm
      subst hm
      simp only at hk ⊢
      rw [List.getElem?_set]
      by_cases hik : i = k
      · subst hik
        rw [if_pos ⟨rfl, by omega⟩]
        simp [hblen, hi]
      · rw [if_neg (by omega), if_neg hik]
        exact h.val b hbm k hk
    · rw [if_neg e] at hm
      have hd := h.apart hb hm e
      have hxin := within_of S h.inv.toInv0 (h.mem (List.mem_of_getElem? hm))
      simp only [Bl.key] at hxin
      rw [if_neg (by omega)]
      exact h.val x (List.mem_of_getElem? hm) k hk
end Ti

/- SUMS OVER FRAMES AND OVER HEAPS. Plain: no Go. -/
namespace Ti

def sumTo (g : Nat → Int) : Nat → Int
  | 0 => 0
  | k + 1 => sumTo g k + g k
theorem sumTo_congr {g g' : Nat → Int} {n : Nat} (h : ∀ k, k < n → g k = g' k) : sumTo g n = sumTo g' n := by
  induction n with
  | zero => rfl
  | succ n ih => simp only [sumTo]; rw [ih (fun k hk => h k (by omega)), h n (by omega)]
theorem sumTo_le {g g' : Nat → Int} {n : Nat} (h : ∀ k, k < n → g k ≤ g' k) : sumTo g n ≤ sumTo g' n := by
  induction n with
  | zero => exact Int.le_refl _
  | succ n ih =>
    simp only [sumTo]
    have := ih (fun k hk => h k (by omega))
    have := h n (by omega)
    omega
theorem sumTo_zero (n : Nat) : sumTo (fun _ => 0) n = 0 := by
  induction n with
  | zero => rfl
  | succ n ih => simp only [sumTo, ih]; rfl
theorem sumTo_add (g g' : Nat → Int) (n : Nat) : sumTo (fun k => g k + g' k) n = sumTo g n + sumTo g' n := by
  induction n with
  | zero => rfl
  | succ n ih => simp only [sumTo, ih]; omega
theorem sumTo_mul (a : Int) (g : Nat → Int) (n : Nat) : sumTo (fun k => a * g k) n = a * sumTo g n := by
  induction n with
  | zero => simp [sumTo]
  | succ n ih => simp only [sumTo, ih]; rw [Int.mul_add]
theorem sumTo_swap (g : Nat → Nat → Int) (n m : Nat) : sumTo (fun i => sumTo (fun j => g i j) m) n = sumTo (fun j => sumTo (fun i => g i j) n) m := by
  induction n with
  | zero => simp only [sumTo]; rw [sumTo_zero]
  | succ n ih =>
    simp only [sumTo]
    rw [ih, ← sumTo_add]
/-- one that is hit -/
theorem sumTo_hit (x : Nat) (v : Int) (n : Nat) : sumTo (fun k => if k = x then v else 0) n = if x < n then v else 0 := by
  induction n with
  | zero => simp [sumTo]
  | succ n ih =>
    simp only [sumTo, ih]
    by_cases h : n = x
    · subst h
      rw [if_neg (by omega), if_pos rfl, if_pos (by omega)]; omega
    · rw [if_neg h]
      by_cases h2 : x < n
      · rw [if_pos h2, if_pos (by omega)]; omega
      · rw [if_neg h2, if_neg (by omega)]; omega
/-- one that is other -/
theorem sumTo_one {g g' : Nat → Int} {n : Nat} (f : Nat) (hf : f < n) (h : ∀ k, k ≠ f → g' k = g k) : sumTo g' n = sumTo g n - g f + g' f := by
  have : ∀ m, sumTo g' m = sumTo g m + (if f < m then g' f - g f else 0) := fun m => by
    induction m with
    | zero => rfl
    | succ m ih =>
      simp only [sumTo, ih]
      by_cases e : m = f
      · subst e
        rw [if_neg (by omega), if_pos (by omega)]; omega
      · rw [h m e]
        by_cases h2 : f < m
        · rw [if_pos h2, if_pos (by omega)]; omega
        · rw [if_neg h2, if_neg (by omega)]; omega
  rw [this n, if_pos hf]; omega
theorem sumTo_nn {g : Nat → Int} {n : Nat} (h : ∀ k, k < n → 0 ≤ g k) : 0 ≤ sumTo g n := by
  have := sumTo_le (g := fun _ => 0) (g' := g) h
  rwa [sumTo_zero] at this

theorem held_sum (S : St) (h c : Int) : S.held h c = sumTo (fun k => if S.mine h c k = true then 64 else 0) S.sups.length := by
  unfold St.held
  generalize S.sups.length = n
  induction n with
  | zero => rfl
  | succ n ih =>
    simp only [St.heldTo, sumTo, ih]
    split <;> omega
theorem charged_sum (S : St) (h c : Int) : S.charged h c = sumTo (fun k => if S.mine h c k = true then width c * (S.used k : Int) else 0) S.sups.length := by
  unfold St.charged
  generalize S.sups.length = n
  induction n with
  | zero => rfl
  | succ n ih =>
    simp only [St.chargedTo, sumTo, ih]
    split <;> omega
theorem frees_sum (S : St) (n : Nat) : (S.frees n : Int) = sumTo (fun k => if S.free k = true then 1 else 0) n := by
  induction n with
  | zero => rfl
  | succ n ih =>
    simp only [St.frees, sumTo, ← ih]
    split <;> simp

def St.kind (S : St) (c : Int) (k : Nat) : Bool := (S.sup k).is && (S.sup k).cls == c
theorem mine_iff (S : St) (h c : Int) (k : Nat) : S.mine h c k = true ↔ (S.sup k).is = true ∧ (S.sup k).heap = h ∧ (S.sup k).cls = c := by
  unfold St.mine
  simp [and_assoc]
theorem kind_iff (S : St) (c : Int) (k : Nat) : S.kind c k = true ↔ (S.sup k).is = true ∧ (S.sup k).cls = c := by
  unfold St.kind
  simp

/-- over all heaps: each superblock is one heap's -/
theorem heaps_sum (S : St) (hI : Inv0 S) (c : Int) (v : Nat → Int) : sumTo (fun h => sumTo (fun k => if S.mine h c k = true then v k else 0) S.sups.length) (S.heaps.toNat + 1) =
    sumTo (fun k => if S.kind c k = true then v k else 0) S.sups.length := by
  rw [sumTo_swap]
  apply sumTo_congr
  intro k _
  by_cases h : S.kind c k = true
  · rw [if_pos h]
    obtain ⟨hi, hc⟩ := (kind_iff S c k).1 h
    obtain ⟨_, _, _, h0, h1⟩ := hI.sup k hi
    have := hI.h1
    have e : ∀ j : Nat, (if S.mine (j : Int) c k = true then v k else 0) = if j = (S.sup k).heap.toNat then v k else 0 := fun j => by
      by_cases ej : j = (S.sup k).heap.toNat
      · rw [if_pos ej, if_pos ((mine_iff S _ c k).2 ⟨hi, by omega, hc⟩)]
      · rw [if_neg ej, if_neg (fun hm => ej (by have := ((mine_iff S _ c k).1 hm).2.1; omega))]
    rw [sumTo_congr (fun j _ => e j), sumTo_hit, if_pos (by omega)]
  · rw [if_neg h]
    have e : ∀ j : Nat, (if S.mine (j : Int) c k = true then v k else 0) = 0 := fun j =>
      if_neg (fun hm => h ((kind_iff S c k).2 ⟨((mine_iff S _ c k).1 hm).1, ((mine_iff S _ c k).1 hm).2.2⟩))
    rw [sumTo_congr (fun j _ => e j), sumTo_zero]

/-- the blocks of a class -/
def small (c : Int) (b : Int × Int) : Bool := decide (b.2 ≤ 32) && clsOf b.2 == c
theorem sum_count (bs : List (Int × Int)) (P : Nat → Bool) (n : Nat) (hb : ∀ b ∈ bs, 0 ≤ b.1 ∧ (b.1 / 64).toNat < n) :
    sumTo (fun k => if P k = true then ((bs.countP (fun b => b.1 / 64 == (k : Int)) : Nat) : Int) else 0) n = ((bs.countP (fun b => P (b.1 / 64).toNat) : Nat) : Int) := by
  induction bs with
  | nil =>
    simp only [List.countP_nil]
    rw [sumTo_congr (g' := fun _ => 0) (fun k _ => by split <;> rfl), sumTo_zero]; rfl
  | cons x r ih =>
    have ih' := ih (fun b hb' => hb b (List.mem_cons_of_mem _ hb'))
    obtain ⟨x0, x1⟩ := hb x (List.mem_cons_self ..)
    simp only [List.countP_cons]
    have e : ∀ k : Nat, (if P k = true then (((r.countP (fun b => b.1 / 64 == (k : Int)) + if (x.1 / 64 == (k : Int)) = true then 1 else 0 : Nat)) : Int) else 0) =
        (if P k = true then ((r.countP (fun b => b.1 / 64 == (k : Int)) : Nat) : Int) else 0) + (if k = (x.1 / 64).toNat then (if P (x.1 / 64).toNat = true then 1 else 0) else 0) := fun k => by
      by_cases ek : k = (x.1 / 64).toNat
      · subst ek
        have h1 : (x.1 / 64 == ((x.1 / 64).toNat : Int)) = true := by simp; omega
        rw [if_pos rfl]
        by_cases hp : P (x.1 / 64).toNat = true
        · rw [if_pos hp, if_pos hp, if_pos hp, if_pos h1]; simp
        · rw [if_neg hp, if_neg hp, if_neg hp]; rfl
      · have h1 : ¬ (x.1 / 64 == (k : Int)) = true := by simp; omega
        rw [if_neg ek, if_neg h1]
        split <;> simp
    rw [sumTo_congr (fun k _ => e k), sumTo_add, ih', sumTo_hit, if_pos x1]
    by_cases hp : P (x.1 / 64).toNat = true
    · simp [hp]
    · simp [hp]

/-- what all heaps are charged of a class is what its blocks are -/
theorem charged_all (S : St) (hI : Inv0 S) (c : Int) : sumTo (fun h => S.charged h c) (S.heaps.toNat + 1) = width c * ((S.blocks.countP (small c) : Nat) : Int) := by
  rw [sumTo_congr (g' := fun h : Nat => sumTo (fun k => if S.mine h c k = true then width c * (S.used k : Int) else 0) S.sups.length) (fun h _ => charged_sum S h c), heaps_sum S hI c]
  rw [sumTo_congr (g' := fun k => width c * (if S.kind c k = true then (S.used k : Int) else 0)) (fun k _ => by split <;> simp), sumTo_mul]
  congr 1
  rw [sumTo_congr (g' := fun k => if S.kind c k = true then ((S.blocks.countP (fun b => b.1 / 64 == (k : Int)) : Nat) : Int) else 0) (fun k _ => by rw [St.used, usedN_countP])]
  rw [sum_count S.blocks (S.kind c) S.sups.length (fun b hb => by have := hI.ok b hb; exact ⟨this.2.2.1, by have := this.2.2.1; have := (hI.ok b hb).2.2.2.1; omega⟩)]
  congr 1
  apply List.countP_congr
  intro b hb
  obtain ⟨b1, b2, b3, b4, b5, b6⟩ := hI.ok b hb
  rw [kind_iff]
  unfold small
  simp only [Bool.and_eq_true, decide_eq_true_eq, beq_iff_eq]
  constructor
  · rintro ⟨h1, h2⟩
    by_cases hl : 32 < b.2
    · have := (b6 hl).2.2 (b.1 / 64).toNat (by have := (b6 hl).1; omega) (by omega)
      rw [h1] at this; cases this
    · exact ⟨by omega, by rw [← (b5 (by omega)).2.1]; exact h2⟩
  · rintro ⟨h1, h2⟩
    exact ⟨(b5 h1).1, by rw [(b5 h1).2.1]; exact h2⟩
theorem held_all (S : St) (hI : Inv0 S) (c : Int) : sumTo (fun h => S.held h c) (S.heaps.toNat + 1) = sumTo (fun k => if S.kind c k = true then 64 else 0) S.sups.length := by
  rw [sumTo_congr (g' := fun h : Nat => sumTo (fun k => if S.mine h c k = true then 64 else 0) S.sups.length) (fun h _ => held_sum S h c), heaps_sum S hI c (fun _ => 64)]
end Ti

/- ALL FRAMES: free ones, superblocks, large blocks. Plain: no Go. -/
namespace Ti

def sumL (g : (Int × Int) → Int) : List (Int × Int) → Int
  | [] => 0
  | b :: r => g b + sumL g r
theorem sumL_perm (g : (Int × Int) → Int) {l l' : List (Int × Int)} (h : l.Perm l') : sumL g l = sumL g l' := by
  induction h with
  | nil => rfl
  | cons x _ ih => simp only [sumL, ih]
  | swap x y r => simp only [sumL]; omega
  | trans _ _ h1 h2 => exact h1.trans h2
/-- the frames of a large block -/
def frames (b : Int × Int) : Int := if 32 < b.2 then (b.2 + 63) / 64 else 0

theorem sumTo_between (a m n : Nat) (h : a + m ≤ n) : sumTo (fun k => if a ≤ k ∧ k < a + m then 1 else 0) n = m := by
  have : ∀ n, sumTo (fun k => if a ≤ k ∧ k < a + m then 1 else 0) n = if n ≤ a then 0 else if n ≤ a + m then ((n - a : Nat) : Int) else m := fun n => by
    induction n with
    | zero => simp [sumTo]
    | succ n ih =>
      simp only [sumTo, ih]
      by_cases h1 : n + 1 ≤ a
      · rw [if_pos (by omega), if_neg (by omega), if_pos h1]; rfl
      · rw [if_neg h1]
        by_cases h2 : n + 1 ≤ a + m
        · rw [if_pos h2, if_pos (show a ≤ n ∧ n < a + m by omega)]
          by_cases h3 : n ≤ a
          · rw [if_pos h3]; omega
          · rw [if_neg h3, if_pos (by omega)]; omega
        · rw [if_neg h2, if_neg (show ¬ (a ≤ n ∧ n < a + m) by omega)]
          by_cases h3 : n ≤ a
          · rw [if_pos h3]; omega
          · rw [if_neg h3]
            by_cases h4 : n ≤ a + m
            · rw [if_pos h4]; omega
            · rw [if_neg h4]; omega
  rw [this n]
  by_cases h1 : n ≤ a
  · rw [if_pos h1]; omega
  · rw [if_neg h1]
    by_cases h2 : n ≤ a + m
    · rw [if_pos h2]; omega
    · rw [if_neg h2]

theorem covers_iff (b : Int × Int) (f : Int) : covers b f = true ↔ 32 < b.2 ∧ b.1 ≤ 64 * f ∧ 64 * f < b.1 + b.2 := by
  unfold covers
  simp [and_assoc]
theorem covers_frames (S : St) (b : Int × Int) (hb : BlockOk S b) : sumTo (fun k => if covers b k = true then 1 else 0) S.sups.length = frames b := by
  obtain ⟨b1, b2, b3, b4, b5, b6⟩ := hb
  unfold frames
  by_cases h : 32 < b.2
  · rw [if_pos h]
    obtain ⟨h1, h2, _⟩ := b6 h
    have e : ∀ k : Nat, (if covers b k = true then (1 : Int) else 0) = if (b.1 / 64).toNat ≤ k ∧ k < (b.1 / 64).toNat + ((b.2 + 63) / 64).toNat then 1 else 0 := fun k => by
      by_cases hc : covers b k = true
      · have := (covers_iff b k).1 hc
        rw [if_pos hc, if_pos (by omega)]
      · rw [if_neg hc, if_neg (fun hn => hc ((covers_iff b k).2 ⟨h, by omega, by omega⟩))]
    rw [sumTo_congr (fun k _ => e k), sumTo_between _ _ _ (by omega)]
    omega
  · rw [if_neg h]
    have e : ∀ k : Nat, (if covers b k = true then (1 : Int) else 0) = 0 := fun k => if_neg (fun hc => h ((covers_iff b k).1 hc).1)
    rw [sumTo_congr (fun k _ => e k), sumTo_zero]

/-- a frame is part of one large block at most -/
theorem cover_sum (bs : List (Int × Int)) (hs : bs.Pairwise (fun a b => a.1 < b.1)) (hl : ∀ a ∈ bs, ∀ b ∈ bs, 32 < a.2 → a.1 < b.1 → a.1 + a.2 ≤ b.1) (f : Int) :
    sumL (fun b => if covers b f = true then 1 else 0) bs = if (∃ b ∈ bs, covers b f = true) then 1 else 0 := by
  induction bs with
  | nil => simp [sumL]
  | cons x r ih =>
    have ih' := ih (List.pairwise_cons.1 hs).2 (fun a ha b hb => hl a (List.mem_cons_of_mem _ ha) b (List.mem_cons_of_mem _ hb))
    simp only [sumL, ih']
    by_cases hx : covers x f = true
    · have hn : ¬ ∃ b ∈ r, covers b f = true := by
        rintro ⟨b, hb, hc⟩
        have h1 := (covers_iff x f).1 hx
        have h2 := (covers_iff b f).1 hc
        have h3 := (List.pairwise_cons.1 hs).1 b hb
        have h4 := hl x (List.mem_cons_self ..) b (List.mem_cons_of_mem _ hb) h1.1 h3
        omega
      rw [if_pos hx, if_neg hn, if_pos ⟨x, List.mem_cons_self .., hx⟩]; omega
    · rw [if_neg hx]
      by_cases hr : ∃ b ∈ r, covers b f = true
      · obtain ⟨b, hb, hc⟩ := hr
        rw [if_pos ⟨b, hb, hc⟩, if_pos ⟨b, List.mem_cons_of_mem _ hb, hc⟩]; omega
      · rw [if_neg hr, if_neg]
        · omega
        · rintro ⟨b, hb, hc⟩
          rcases List.mem_cons.1 hb with rfl | hb
          · exact hx hc
          · exact hr ⟨b, hb, hc⟩
theorem sumL_sum (bs : List (Int × Int)) (g : (Int × Int) → Nat → Int) (n : Nat) : sumTo (fun k => sumL (fun b => g b k) bs) n = sumL (fun b => sumTo (g b) n) bs := by
  induction bs with
  | nil => simp only [sumL]; exact sumTo_zero n
  | cons x r ih => simp only [sumL]; rw [sumTo_add, ih]
theorem sumL_congr {g g' : (Int × Int) → Int} {l : List (Int × Int)} (h : ∀ b ∈ l, g b = g' b) : sumL g l = sumL g' l := by
  induction l with
  | nil => rfl
  | cons x r ih => simp only [sumL]; rw [h x (List.mem_cons_self ..), ih (fun b hb => h b (List.mem_cons_of_mem _ hb))]

/-- what is held, the large blocks and the free frames are all frames -/
theorem frames_all (S : St) (hI : Inv0 S) : (S.freeFrames : Int) + sumL frames S.blocks +
    sumTo (fun c => sumTo (fun k => if S.kind c k = true then 1 else 0) S.sups.length) 3 = S.sups.length := by
  unfold St.freeFrames
  have e1 : sumL frames S.blocks = sumTo (fun k => if (∃ b ∈ S.blocks, covers b k = true) then 1 else 0) S.sups.length := by
    rw [sumL_congr (g' := fun b => sumTo (fun k => if covers b k = true then 1 else 0) S.sups.length) (fun b hb => (covers_frames S b (hI.ok b hb)).symm), ← sumL_sum]
    exact sumTo_congr (fun k _ => cover_sum S.blocks hI.sorted hI.large k)
  rw [frees_sum, e1, sumTo_swap, ← sumTo_add, ← sumTo_add]
  have : sumTo (fun _ => (1 : Int)) S.sups.length = S.sups.length := by
    generalize S.sups.length = n
    induction n with
    | zero => rfl
    | succ n ih => simp only [sumTo, ih]; omega
  conv => rhs; rw [← this]
  apply sumTo_congr
  intro k _
  simp only [sumTo]
  by_cases hi : (S.sup k).is = true
  · have hc := hI.sup k hi
    have h1 : ¬ S.free k = true := fun hf => by rw [((free_spec S k).1 hf).1] at hi; cases hi
    have h2 : ¬ ∃ b ∈ S.blocks, covers b k = true := by
      rintro ⟨b, hb, hcv⟩
      obtain ⟨c1, c2, c3⟩ := (covers_iff b k).1 hcv
      have := ((hI.ok b hb).2.2.2.2.2 c1).2.2 k c2 c3
      rw [hi] at this; cases this
    rw [if_neg h1, if_neg h2]
    have h3 : ∀ c : Int, (if S.kind c k = true then (1 : Int) else 0) = if (S.sup k).cls = c then 1 else 0 := fun c => by
      by_cases e : (S.sup k).cls = c
      · rw [if_pos e, if_pos ((kind_iff S c k).2 ⟨hi, e⟩)]
      · rw [if_neg e, if_neg (fun hk => e ((kind_iff S c k).1 hk).2)]
    rw [h3, h3, h3]
    have hcc : (S.sup k).cls = 0 ∨ (S.sup k).cls = 1 ∨ (S.sup k).cls = 2 := by omega
    rcases hcc with e | e | e <;> rw [e] <;> rfl
  · have h3 : ∀ c : Int, (if S.kind c k = true then (1 : Int) else 0) = 0 := fun c => if_neg (fun hk => hi ((kind_iff S c k).1 hk).1)
    rw [h3, h3, h3]
    by_cases hf : S.free k = true
    · have h2 : ¬ ∃ b ∈ S.blocks, covers b k = true := by
        rintro ⟨b, hb, hcv⟩
        obtain ⟨c1, c2, c3⟩ := (covers_iff b k).1 hcv
        exact ((free_spec S k).1 hf).2 b hb c1 ⟨c2, c3⟩
      rw [if_pos hf, if_neg h2]; rfl
    · have h2 : ∃ b ∈ S.blocks, covers b k = true := by
        apply Classical.byContradiction
        intro hn
        refine hf ((free_spec S k).2 ⟨by simpa using hi, fun b hb hl hc => hn ⟨b, hb, (covers_iff b k).2 ⟨hl, hc⟩⟩⟩)
      rw [if_neg hf, if_pos h2]; rfl
end Ti

/- EACH HEAP IS LEAN, behind everything. Plain: no Go. -/
namespace Ti

/-- where a small block goes, with what is known of the others -/
theorem place_cases (S : St) (h c : Int) :
    (S.place h c = -1 ∧ (∀ k, k < S.sups.length → S.mine h c k = true → slots c ≤ S.used k) ∧ (∀ k, k < S.sups.length → S.mine 0 c k = true → slots c ≤ S.used k) ∧ ∀ k, k < S.sups.length → S.free k = false) ∨
    ∃ f : Nat, f < S.sups.length ∧ S.place h c = (f : Int) ∧
      ((S.mine h c f = true ∧ (S.used f : Int) < slots c) ∨
       ((∀ k, k < S.sups.length → S.mine h c k = true → slots c ≤ S.used k) ∧ S.mine 0 c f = true ∧ (S.used f : Int) < slots c) ∨
       ((∀ k, k < S.sups.length → S.mine h c k = true → slots c ≤ S.used k) ∧ (∀ k, k < S.sups.length → S.mine 0 c k = true → slots c ≤ S.used k) ∧ S.free f = true)) := by
  unfold St.place
  rcases fullest_spec S h c with ⟨a, a'⟩ | ⟨f, hf, a, m, u⟩
  · rw [if_neg (by omega)]
    rcases fullest_spec S 0 c with ⟨b, b'⟩ | ⟨f, hf, b, m, u⟩
    · rw [if_neg (by omega)]
      rcases run_spec S 1 with ⟨d, d'⟩ | ⟨f, hf, d, d'⟩
      · refine .inl ⟨d, a', b', fun k hk => ?_⟩
        have := d' k (by omega)
        cases hq : S.free k with
        | false => rfl
        | true => rw [(allFree_spec S k 1).2 (fun j hj => by rw [show j = 0 by omega]; exact hq)] at this; cases this
      · exact .inr ⟨f, by omega, d, .inr (.inr ⟨a', b', by simpa using (allFree_spec S f 1).1 d' 0 (by omega)⟩)⟩
    · rw [if_pos (by omega)]
      exact .inr ⟨f, hf, b, .inr (.inl ⟨a', m, u⟩)⟩
  · rw [if_pos (by omega)]
    exact .inr ⟨f, hf, a, .inl ⟨m, u⟩⟩

theorem width_mul (c : Int) : width c * slots c = 64 := by
  rcases width_slots c with ⟨a, b⟩ | ⟨a, b⟩ | ⟨a, b⟩ <;> rw [a, b] <;> rfl
theorem width_used (S : St) (hI : Inv0 S) (h c : Int) (k : Nat) (hm : S.mine h c k = true) : width c * (S.used k : Int) ≤ 64 := by
  obtain ⟨hi, _, hc⟩ := (mine_iff S h c k).1 hm
  have := used_8 S hI k hi
  rw [hc] at this
  rcases width_slots c with ⟨a, b⟩ | ⟨a, b⟩ | ⟨a, b⟩ <;> rw [a] <;> rw [b] at this <;> omega
theorem charged_le (S : St) (hI : Inv0 S) (h c : Int) : S.charged h c ≤ S.held h c := by
  rw [held_sum, charged_sum]
  refine sumTo_le fun k _ => ?_
  split
  · rename_i hm; exact width_used S hI h c k hm
  · exact Int.le_refl _
/-- all of a heap and class are full: all that is held is charged -/
theorem full_eq (S : St) (hI : Inv0 S) (h c : Int) (hf : ∀ k, k < S.sups.length → S.mine h c k = true → slots c ≤ S.used k) : S.charged h c = S.held h c := by
  rw [held_sum, charged_sum]
  refine sumTo_congr fun k hk => ?_
  by_cases hm : S.mine h c k = true
  · rw [if_pos hm, if_pos hm]
    have h1 := hf k hk hm
    have h2 := width_used S hI h c k hm
    rcases width_slots c with ⟨a, b⟩ | ⟨a, b⟩ | ⟨a, b⟩ <;> rw [a] at h2 ⊢ <;> rw [b] at h1 <;> omega
  · rw [if_neg hm, if_neg hm]

theorem mine_set (S : St) (f : Nat) (s : Sup) (hf : f < S.sups.length) (h c : Int) (k : Nat) : (S.setSup f s).mine h c k = if k = f then (s.is && s.heap == h && s.cls == c) else S.mine h c k := by
  unfold St.mine
  rw [sup_setSup S f k s hf]
  split <;> rfl

/-- a small block more, in frame f -/
theorem put_held (S : St) (f : Nat) (hf : f < S.sups.length) (h c a size : Int) (h' c' : Int) :
    ((S.setSup f ⟨true, c, h⟩).put (a, size)).held h' c' = S.held h' c' - (if S.mine h' c' f = true then 64 else 0) + (if h = h' ∧ c = c' then 64 else 0) := by
  rw [held_sum, held_sum]
  have hl : ((S.setSup f ⟨true, c, h⟩).put (a, size)).sups.length = S.sups.length := len_setSup _ _ _
  rw [hl]
  have hm : ∀ k, ((S.setSup f ⟨true, c, h⟩).put (a, size)).mine h' c' k = (S.setSup f ⟨true, c, h⟩).mine h' c' k := fun _ => rfl
  rw [sumTo_one (g := fun k => if S.mine h' c' k = true then 64 else 0) f hf (fun k hk => by simp only [hm, mine_set S f _ hf, if_neg hk])]
  congr 1
  simp only [hm, mine_set S f _ hf, if_true]
  by_cases e : h = h' ∧ c = c'
  · simp [e.1, e.2]
  · rw [if_neg e, if_neg (by simpa using e)]
theorem put_charged (S : St) (f : Nat) (hf : f < S.sups.length) (h c a size : Int) (ha : a / 64 = f) (h' c' : Int) :
    ((S.setSup f ⟨true, c, h⟩).put (a, size)).charged h' c' = S.charged h' c' - (if S.mine h' c' f = true then width c' * (S.used f : Int) else 0) + (if h = h' ∧ c = c' then width c' * ((S.used f : Int) + 1) else 0) := by
  rw [charged_sum, charged_sum]
  have hl : ((S.setSup f ⟨true, c, h⟩).put (a, size)).sups.length = S.sups.length := len_setSup _ _ _
  rw [hl]
  have hm : ∀ k, ((S.setSup f ⟨true, c, h⟩).put (a, size)).mine h' c' k = (S.setSup f ⟨true, c, h⟩).mine h' c' k := fun _ => rfl
  have hu : ∀ k, ((S.setSup f ⟨true, c, h⟩).put (a, size)).used k = S.used k + if a / 64 = (k : Int) then 1 else 0 := fun k => by
    rw [used_put]; rfl
  rw [sumTo_one (g := fun k => if S.mine h' c' k = true then width c' * (S.used k : Int) else 0) f hf (fun k hk => by
    simp only [hm, hu, mine_set S f _ hf, if_neg hk]
    rw [if_neg (show ¬ a / 64 = (k : Int) by omega)]; rfl)]
  congr 1
  simp only [hm, hu, mine_set S f _ hf, if_true]
  rw [if_pos ha]
  by_cases e : h = h' ∧ c = c'
  · simp [e.1, e.2]
  · rw [if_neg e, if_neg (by simpa using e)]

def LeanOk (S : St) : Prop := ∀ h c : Int, 0 < h → S.held h c ≤ S.charged h c + 64 * S.slack ∨ S.held h c ≤ 2 * S.charged h c

theorem lean_new (h s : Int) (n : Nat) (hs : 0 ≤ s) : LeanOk (newSt h n s) := by
  intro h' c' _
  left
  have e : ∀ k, (newSt h n s).mine h' c' k = false := fun k => by
    have : (newSt h n s).sup k = sup0 := by
      unfold St.sup newSt
      simp only [List.getElem?_replicate]
      split <;> rfl
    unfold St.mine
    rw [this]; rfl
  rw [held_sum, charged_sum, sumTo_congr (g' := fun _ => 0) (fun k _ => by simp [e k]), sumTo_congr (g := fun k => if (newSt h n s).mine h' c' k = true then width c' * ((newSt h n s).used k : Int) else 0) (g' := fun _ => 0) (fun k _ => by simp [e k]), sumTo_zero]
  have : (newSt h n s).slack = s := rfl
  omega

theorem free_zero (S : St) (hI : Inv0 S) (f : Nat) (h : S.free f = true) : S.used f = 0 := by
  unfold St.used
  rw [usedN_countP, List.countP_eq_zero]
  intro b hb
  have := free_none S hI f h b hb
  simpa using this

theorem lean_mallocSmall (S : St) (hI : Inv0 S) (hL : LeanOk S) (worker size : Int) (hw : 0 ≤ worker) (hs1 : 1 ≤ size) (hs : size ≤ 32) : LeanOk (S.mallocSmall worker size).2 := by
  rcases mallocSmall_spec S hI worker size hs1 hs with ⟨_, e⟩ | ⟨f, n, hf, hp, hn, _, _, _, e⟩
  · rw [e]; exact hL
  · rw [e]
    have h0 := hI.h1
    have hm0 : 0 ≤ worker % S.heaps := Int.emod_nonneg _ (by omega)
    have hbd := slot_bounds (clsOf size) n hn
    have ha : (64 * (f : Int) + n * width (clsOf size)) / 64 = f := by
      have := hbd.1; have := hbd.2.1; have := hbd.2.2.2
      generalize (n : Int) * width (clsOf size) = z at *
      omega
    intro h' c' hh'
    rw [put_held S f hf, put_charged S f hf _ _ _ _ ha]
    have hsl : ((S.setSup f ⟨true, clsOf size, 1 + worker % S.heaps⟩).put (64 * (f : Int) + n * width (clsOf size), size)).slack = S.slack := rfl
    rw [hsl]
    have hs1' := hI.s1
    have hL' := hL h' c' hh'
    have hwp : 0 < width c' := by rcases width_slots c' with ⟨w, _⟩ | ⟨w, _⟩ | ⟨w, _⟩ <;> omega
    rcases place_cases S (1 + worker % S.heaps) (clsOf size) with ⟨a, _⟩ | ⟨g, hg, a, hcase⟩
    · rw [a] at hp; omega
    · have : g = f := by omega
      subst this
      by_cases e : 1 + worker % S.heaps = h' ∧ clsOf size = c'
      · obtain ⟨e1, e2⟩ := e
        have e12 : 1 + worker % S.heaps = h' ∧ clsOf size = c' := ⟨e1, e2⟩
        simp only [if_pos e12]
        rw [e1, e2] at hcase
        rcases hcase with ⟨hm, _⟩ | ⟨hfull, hm, _⟩ | ⟨hfull, _, hfr⟩
        · simp only [if_pos hm, Int.mul_add]
          generalize width c' * (S.used g : Int) = z at *
          omega
        · have hq := full_eq S hI h' c' hfull
          have hnm : ¬ S.mine h' c' g = true := fun hx => by
            have := ((mine_iff S _ _ _).1 hx).2.1
            have := ((mine_iff S _ _ _).1 hm).2.1
            omega
          simp only [if_neg hnm, Int.mul_add]
          have : 0 ≤ width c' * (S.used g : Int) := Int.mul_nonneg (by omega) (by omega)
          generalize width c' * (S.used g : Int) = z at *
          omega
        · have hq := full_eq S hI h' c' hfull
          have hnm : ¬ S.mine h' c' g = true := fun hx => by
            have h1 := ((mine_iff S _ _ _).1 hx).1
            rw [((free_spec S g).1 hfr).1] at h1; cases h1
          simp only [if_neg hnm, Int.mul_add]
          have : 0 ≤ width c' * (S.used g : Int) := Int.mul_nonneg (by omega) (by omega)
          generalize width c' * (S.used g : Int) = z at *
          omega
      · have hnm : ¬ S.mine h' c' g = true := fun hx => by
          have hx' := (mine_iff S _ _ _).1 hx
          rcases hcase with ⟨hm, _⟩ | ⟨_, hm, _⟩ | ⟨_, _, hfr⟩
          · have hm' := (mine_iff S _ _ _).1 hm
            exact e ⟨by omega, by omega⟩
          · have hm' := (mine_iff S _ _ _).1 hm
            omega
          · rw [((free_spec S g).1 hfr).1] at hx'; exact absurd hx'.1 (by decide)
        simp only [if_neg hnm, if_neg e]
        omega
theorem lean_of_same {S T : St} (hL : LeanOk S) (h1 : T.sups = S.sups) (h2 : T.slack = S.slack) (h3 : ∀ k, (S.sup k).is = true → T.used k = S.used k) : LeanOk T := by
  intro h c hh
  have hm : ∀ k, T.mine h c k = S.mine h c k := fun k => by unfold St.mine St.sup; rw [h1]
  have e1 : T.held h c = S.held h c := by
    rw [held_sum, held_sum, h1]
    exact sumTo_congr fun k _ => by rw [hm]
  have e2 : T.charged h c = S.charged h c := by
    rw [charged_sum, charged_sum, h1]
    refine sumTo_congr fun k _ => ?_
    rw [hm]
    by_cases hq : S.mine h c k = true
    · rw [if_pos hq, if_pos hq, h3 k ((mine_iff S h c k).1 hq).1]
    · rw [if_neg hq, if_neg hq]
  rw [e1, e2, h2]
  exact hL h c hh
theorem lean_mallocLarge (S : St) (hL : LeanOk S) (size : Int) (h1 : 32 < size) : LeanOk (S.mallocLarge size).2 := by
  simp only [St.mallocLarge]
  split
  · exact hL
  · rename_i hn
    refine lean_of_same hL rfl rfl fun k hk => ?_
    rw [used_put]
    rcases run_spec S ((size + 63) / 64).toNat with ⟨a, _⟩ | ⟨f, hf, a, b⟩
    · omega
    · rw [a]
      have hfr := (allFree_spec S f _).1 b 0 (by omega)
      have : k ≠ f := fun hc => by
        rw [hc] at hk
        have := ((free_spec S (f + 0)).1 hfr).1
        simp only [Nat.add_zero] at this
        rw [hk] at this; cases this
      rw [if_neg (by simp only; omega)]; omega
theorem lean_malloc (S : St) (hI : Inv0 S) (hL : LeanOk S) (w size : Int) : LeanOk (S.malloc w size).2 := by
  unfold St.malloc
  split
  · exact hL
  · split
    · exact lean_mallocLarge S hL size (by assumption)
    · exact lean_mallocSmall S hI hL w size (by omega) (by omega) (by omega)
end Ti

/- A FREE KEEPS EACH HEAP LEAN. Plain: no Go. -/
namespace Ti

theorem less_held (S : St) (k : Nat) (h c : Int) : (S.less k).held h c = S.held h c := by
  rw [held_sum, held_sum]; rfl
theorem less_charged (S : St) (k : Nat) (hk : k < S.blocks.length) (f : Nat) (hf : f < S.sups.length) (ha : (bk S.blocks k).1 / 64 = f) (h c : Int) :
    (S.less k).charged h c = S.charged h c - if S.mine h c f = true then width c else 0 := by
  rw [charged_sum, charged_sum]
  have hl : (S.less k).sups.length = S.sups.length := rfl
  have hm : ∀ j, (S.less k).mine h c j = S.mine h c j := fun _ => rfl
  rw [hl, sumTo_one (g := fun k => if S.mine h c k = true then width c * (S.used k : Int) else 0) f hf (fun j hj => by
    have hu := used_less S k hk j
    rw [if_neg (by omega)] at hu
    simp only [hm]
    rw [show (S.less k).used j = S.used j by omega])]
  have hu := used_less S k hk f
  rw [if_pos ha] at hu
  simp only [hm]
  by_cases e : S.mine h c f = true
  · simp only [if_pos e]
    rw [show (S.used f : Int) = ((S.less k).used f : Int) + 1 by omega, Int.mul_add]
    omega
  · simp only [if_neg e]; omega

/-- a sweep is seen in heap 0 alone -/
theorem sweep_mine (S : St) (hI : Inv0 S) (h c : Int) (hh : 0 < h) (k : Nat) : S.sweep.mine h c k = S.mine h c k := by
  by_cases hg : S.gone k
  · have h1 : ¬ S.sweep.mine h c k = true := fun hm => by
      have := ((mine_iff _ _ _ _).1 hm).1
      rw [(sweep_sup S hI k).1 hg] at this; cases this
    have h2 : ¬ S.mine h c k = true := fun hm => by
      have := ((mine_iff _ _ _ _).1 hm).2.1
      have := hg.2.1
      omega
    simp only [Bool.not_eq_true] at h1 h2
    rw [h1, h2]
  · unfold St.mine
    rw [(sweep_sup S hI k).2 hg]
theorem sweep_used (S : St) (k : Nat) : S.sweep.used k = S.used k := used_blocks (sweepTo_same S S.sups.length).1 k
theorem sweep_held (S : St) (hI : Inv0 S) (h c : Int) (hh : 0 < h) : S.sweep.held h c = S.held h c := by
  rw [held_sum, held_sum, show S.sweep.sups.length = S.sups.length from (sweepTo_same S S.sups.length).2.2.2.2]
  exact sumTo_congr fun k _ => by rw [sweep_mine S hI h c hh]
theorem sweep_charged (S : St) (hI : Inv0 S) (h c : Int) (hh : 0 < h) : S.sweep.charged h c = S.charged h c := by
  rw [charged_sum, charged_sum, show S.sweep.sups.length = S.sups.length from (sweepTo_same S S.sups.length).2.2.2.2]
  exact sumTo_congr fun k _ => by rw [sweep_mine S hI h c hh, sweep_used]

theorem zero_mine (S : St) (e : Nat) (he : e < S.sups.length) (h c : Int) (hh : 0 < h) (k : Nat) : (S.setSup e { S.sup e with heap := 0 }).mine h c k = if k = e then false else S.mine h c k := by
  rw [mine_set S e _ he]
  by_cases hk : k = e
  · rw [if_pos hk, if_pos hk]
    have : ((0 : Int) == h) = false := by simp; omega
    simp [this]
  · rw [if_neg hk, if_neg hk]
theorem zero_held (S : St) (e : Nat) (he : e < S.sups.length) (h c : Int) (hh : 0 < h) : (S.setSup e { S.sup e with heap := 0 }).held h c = S.held h c - if S.mine h c e = true then 64 else 0 := by
  rw [held_sum, held_sum, len_setSup, sumTo_one (g := fun k => if S.mine h c k = true then 64 else 0) e he (fun k hk => by simp only [zero_mine S e he h c hh, if_neg hk])]
  simp only [zero_mine S e he h c hh, if_true]
  simp
theorem zero_charged (S : St) (e : Nat) (he : e < S.sups.length) (h c : Int) (hh : 0 < h) : (S.setSup e { S.sup e with heap := 0 }).charged h c = S.charged h c - if S.mine h c e = true then width c * (S.used e : Int) else 0 := by
  have hu : ∀ k, (S.setSup e { S.sup e with heap := 0 }).used k = S.used k := fun _ => rfl
  rw [charged_sum, charged_sum, len_setSup, sumTo_one (g := fun k => if S.mine h c k = true then width c * (S.used k : Int) else 0) e he (fun k hk => by simp only [zero_mine S e he h c hh, if_neg hk, hu])]
  simp only [zero_mine S e he h c hh, if_true]
  simp

/-- the average: where each is used as much as u at least -/
theorem average (S : St) (h c : Int) (u : Nat) (hu : ∀ k, k < S.sups.length → S.mine h c k = true → u ≤ S.used k) : S.held h c * (width c * (u : Int)) ≤ 64 * S.charged h c := by
  rw [held_sum, charged_sum]
  have hw : 0 ≤ width c := by rcases width_slots c with ⟨w, _⟩ | ⟨w, _⟩ | ⟨w, _⟩ <;> omega
  have : ∀ n, n ≤ S.sups.length → sumTo (fun k => if S.mine h c k = true then 64 else 0) n * (width c * (u : Int)) ≤ 64 * sumTo (fun k => if S.mine h c k = true then width c * (S.used k : Int) else 0) n := fun n => by
    induction n with
    | zero => intro _; simp [sumTo]
    | succ n ih =>
      intro hn
      have ih' := ih (by omega)
      simp only [sumTo]
      rw [Int.add_mul, Int.mul_add]
      by_cases hm : S.mine h c n = true
      · rw [if_pos hm, if_pos hm]
        have h1 : width c * (u : Int) ≤ width c * (S.used n : Int) := Int.mul_le_mul_of_nonneg_left (by have := hu n (by omega) hm; omega) hw
        omega
      · rw [if_neg hm, if_neg hm]; omega
  exact this _ (Nat.le_refl _)

theorem lean_give (S : St) (hI : Inv0 S) (f : Nat) (H C : Int) (h c : Int) (hh : 0 < h) (hH : S.held h c = H) (hC : S.charged h c = C - width c) (hl : H ≤ C + 64 * S.slack ∨ H ≤ 2 * C) :
    (S.give h c).held h c ≤ (S.give h c).charged h c + 64 * S.slack ∨ (S.give h c).held h c ≤ 2 * (S.give h c).charged h c := by
  by_cases ht : S.tooMuch h c = true
  · rw [give_yes S h c ⟨hh, ht⟩]
    have ht' : S.charged h c + 64 * S.slack < S.held h c ∧ 2 * S.charged h c < S.held h c := by simpa [St.tooMuch] using ht
    have hc0 := charged_nn S h c S.sups.length
    have hc0' : 0 ≤ S.charged h c := hc0
    obtain ⟨e, he, hE, hm, hmin⟩ := emptiest_of S hI h c (by omega)
    rw [hE, Int.toNat_natCast, zero_held S e he h c hh, zero_charged S e he h c hh, if_pos hm, if_pos hm]
    have hav := average S h c (S.used e) hmin
    have hnf : width c * ((S.used e : Int) + 1) ≤ 64 := by
      have h1 := width_used S hI h c e hm
      have h2 : ¬ slots c ≤ (S.used e : Int) := fun hf => by
        have := full_eq S hI h c (fun k hk hk' => by have := hmin k hk hk'; omega)
        have := hI.s1
        omega
      rcases width_slots c with ⟨a, b⟩ | ⟨a, b⟩ | ⟨a, b⟩ <;> rw [a] <;> rw [b] at h2 <;> omega
    rcases hl with hl | hl
    · left
      rw [Int.mul_add] at hnf
      generalize width c * (S.used e : Int) = z at *
      omega
    · right
      have h32 : width c * (S.used e : Int) < 32 := by
        apply Int.not_le.1
        intro hq
        have := Int.mul_le_mul_of_nonneg_left hq (show 0 ≤ S.held h c by omega)
        omega
      have h33 : width c * (S.used e : Int) + width c ≤ 32 := by
        rcases width_slots c with ⟨a, b⟩ | ⟨a, b⟩ | ⟨a, b⟩ <;> rw [a] at h32 ⊢ <;> omega
      generalize width c * (S.used e : Int) = z at *
      omega
  · rw [give_no S h c (fun hn => ht hn.2)]
    have : ¬ (S.charged h c + 64 * S.slack < S.held h c ∧ 2 * S.charged h c < S.held h c) := by simpa [St.tooMuch] using ht
    omega

/-- one that is given away was of that heap and class -/
theorem give_other (S : St) (hI : Inv0 S) (h c h' c' : Int) (hh : 0 < h') (hne : ¬ (h' = h ∧ c' = c)) : (S.give h c).held h' c' = S.held h' c' ∧ (S.give h c).charged h' c' = S.charged h' c' := by
  by_cases ht : 0 < h ∧ S.tooMuch h c = true
  · rw [give_yes S h c ht]
    have ht' : S.charged h c + 64 * S.slack < S.held h c ∧ 2 * S.charged h c < S.held h c := by simpa [St.tooMuch] using ht.2
    have hc0' : 0 ≤ S.charged h c := charged_nn S h c S.sups.length
    obtain ⟨e, he, hE, hm, _⟩ := emptiest_of S hI h c (by omega)
    have hn : ¬ S.mine h' c' e = true := fun hx => by
      have a := (mine_iff S _ _ _).1 hx
      have b := (mine_iff S _ _ _).1 hm
      exact hne ⟨by omega, by omega⟩
    rw [hE, Int.toNat_natCast, zero_held S e he h' c' hh, zero_charged S e he h' c' hh, if_neg hn, if_neg hn]
    exact ⟨by omega, by omega⟩
  · rw [give_no S h c ht]
    exact ⟨rfl, rfl⟩

theorem lean_free (S : St) (hI : Inv0 S) (hL : LeanOk S) (a : Int) : LeanOk (S.freeAt a).2 := by
  by_cases h0 : 0 ≤ atI S.blocks a
  · rw [freeAt_eq S a h0]
    obtain ⟨hk, ha⟩ := atI_at S.blocks a h0
    obtain ⟨b1, b2, b3, b4, b5, b6⟩ := hI.ok _ (bk_mem hk)
    rw [ha] at b3 b4
    have haf : (bk S.blocks (atI S.blocks a).toNat).1 / 64 = ((a / 64).toNat : Int) := by rw [ha]; omega
    have hfl : (a / 64).toNat < S.sups.length := by omega
    split
    · rename_i hl
      refine lean_of_same hL rfl rfl fun k hk' => ?_
      have hu := used_less S _ hk k
      rw [if_neg] at hu
      · exact hu.symm
      · intro hc
        have hb := b6 hl
        rw [ha] at hb hc
        have := hb.2.2 k (by omega) (by omega)
        rw [hk'] at this; cases this
    · rename_i hl
      have hb := b5 (by omega)
      rw [ha] at hb
      have hIl := inv0_less S hI (atI S.blocks a).toNat
      have hIg := inv0_give _ hIl (S.sup (a / 64).toNat).heap (S.sup (a / 64).toNat).cls
      intro h c hh
      simp only
      rw [sweep_held _ hIg h c hh, sweep_charged _ hIg h c hh]
      have hsl : (((S.less (atI S.blocks a).toNat).give (S.sup (a / 64).toNat).heap (S.sup (a / 64).toNat).cls).sweep).slack = S.slack :=
        ((sweepTo_same _ _).2.2.2.1).trans (give_same _ _ _).2.2.2.1
      rw [hsl]
      have hH := less_held S (atI S.blocks a).toNat h c
      have hC := less_charged S _ hk (a / 64).toNat hfl haf h c
      by_cases e : h = (S.sup (a / 64).toNat).heap ∧ c = (S.sup (a / 64).toNat).cls
      · rw [← e.1, ← e.2]
        rw [if_pos ((mine_iff _ _ _ _).2 ⟨hb.1, e.1.symm, e.2.symm⟩)] at hC
        exact lean_give _ hIl (a / 64).toNat _ _ h c hh hH hC (hL h c hh)
      · obtain ⟨g1, g2⟩ := give_other _ hIl (S.sup (a / 64).toNat).heap (S.sup (a / 64).toNat).cls h c hh e
        rw [if_neg (fun hm => e ⟨(((mine_iff _ _ _ _).1 hm).2.1).symm, (((mine_iff _ _ _ _).1 hm).2.2).symm⟩)] at hC
        rw [g1, g2, hH, hC]
        have := hL h c hh
        omega
  · have : (S.freeAt a).2 = S := by unfold St.freeAt; rw [if_pos (by omega)]
    rw [this]; exact hL
theorem lean_store (S : St) (hL : LeanOk S) (a v : Int) : LeanOk (S.store a v).2 := by
  unfold St.store
  split
  · exact hL
  · split
    · exact lean_of_same hL rfl rfl (fun _ _ => rfl)
    · exact hL
end Ti

/- WHAT ALL HEAPS HOLD IS BOUNDED; a small block is refused just when there is no room. Plain: no Go. -/
namespace Ti

/-- what all heaps hold of a class -/
def St.tot (S : St) (c : Int) : Int := sumTo (fun k => if S.kind c k = true then 64 else 0) S.sups.length
/-- what all blocks of a class are charged -/
def St.chg (S : St) (c : Int) : Int := width c * ((S.blocks.countP (small c) : Nat) : Int)

theorem chg_ins (S T : St) (b : Int × Int) (h : T.blocks = ins b S.blocks) (c : Int) : T.chg c = S.chg c + if small c b = true then width c else 0 := by
  unfold St.chg
  rw [h, countP_ins]
  by_cases hb : small c b = true
  · simp only [if_pos hb]
    rw [show ((S.blocks.countP (small c) + 1 : Nat) : Int) = ((S.blocks.countP (small c) : Nat) : Int) + 1 by omega, Int.mul_add]; omega
  · simp only [if_neg hb]; simp

theorem kind_set (S : St) (f : Nat) (s : Sup) (hf : f < S.sups.length) (c : Int) (k : Nat) : (S.setSup f s).kind c k = if k = f then (s.is && s.cls == c) else S.kind c k := by
  unfold St.kind
  rw [sup_setSup S f k s hf]
  split <;> rfl
theorem tot_put (S : St) (f : Nat) (hf : f < S.sups.length) (h c a size c' : Int) :
    ((S.setSup f ⟨true, c, h⟩).put (a, size)).tot c' = S.tot c' - (if S.kind c' f = true then 64 else 0) + (if c = c' then 64 else 0) := by
  unfold St.tot
  have hl : ((S.setSup f ⟨true, c, h⟩).put (a, size)).sups.length = S.sups.length := len_setSup _ _ _
  have hm : ∀ k, ((S.setSup f ⟨true, c, h⟩).put (a, size)).kind c' k = (S.setSup f ⟨true, c, h⟩).kind c' k := fun _ => rfl
  rw [hl, sumTo_one (g := fun k => if S.kind c' k = true then 64 else 0) f hf (fun k hk => by simp only [hm, kind_set S f _ hf, if_neg hk])]
  congr 1
  simp only [hm, kind_set S f _ hf, if_true]
  simp
theorem tot_mono {S T : St} (hl : T.sups.length = S.sups.length) (c : Int) (h : ∀ k, T.kind c k = true → S.kind c k = true) : T.tot c ≤ S.tot c := by
  unfold St.tot
  rw [hl]
  refine sumTo_le fun k _ => ?_
  by_cases ht : T.kind c k = true
  · rw [if_pos ht, if_pos (h k ht)]; omega
  · rw [if_neg ht]; split <;> omega

theorem give_kind (S : St) (hI : Inv0 S) (h c c' : Int) (k : Nat) : (S.give h c).kind c' k = S.kind c' k := by
  by_cases ht : 0 < h ∧ S.tooMuch h c = true
  · rw [give_yes S h c ht]
    have ht' : S.charged h c + 64 * S.slack < S.held h c ∧ 2 * S.charged h c < S.held h c := by simpa [St.tooMuch] using ht.2
    have hc0' : 0 ≤ S.charged h c := charged_nn S h c S.sups.length
    obtain ⟨e, he, hE, _, _⟩ := emptiest_of S hI h c (by omega)
    rw [hE, Int.toNat_natCast, kind_set S e _ he]
    by_cases hk : k = e
    · subst hk; rw [if_pos rfl]; rfl
    · rw [if_neg hk]
  · rw [give_no S h c ht]
theorem sweep_kind (S : St) (hI : Inv0 S) (c : Int) (k : Nat) (h : S.sweep.kind c k = true) : S.kind c k = true := by
  by_cases hg : S.gone k
  · have := ((kind_iff _ _ _).1 h).1
    rw [(sweep_sup S hI k).1 hg] at this; cases this
  · unfold St.kind at h ⊢
    rwa [(sweep_sup S hI k).2 hg] at h
theorem tot_free (S : St) (hI : Inv0 S) (a c : Int) : (S.freeAt a).2.tot c ≤ S.tot c := by
  by_cases h0 : 0 ≤ atI S.blocks a
  · have hl := (free_spec' S a h0).2.2.2.2.2
    refine tot_mono hl c fun k hk => ?_
    rw [freeAt_eq S a h0] at hk
    split at hk
    · exact hk
    · have hIl := inv0_less S hI (atI S.blocks a).toNat
      have hIg := inv0_give _ hIl (S.sup (a / 64).toNat).heap (S.sup (a / 64).toNat).cls
      have := sweep_kind _ hIg c k hk
      rw [give_kind _ hIl] at this
      exact this
  · have : (S.freeAt a).2 = S := by unfold St.freeAt; rw [if_pos (by omega)]
    rw [this]; exact Int.le_refl _
theorem tot_store (S : St) (a v c : Int) : (S.store a v).2.tot c = S.tot c := by
  unfold St.store
  split
  · rfl
  · split <;> rfl

/-- where heap 0 and one other heap are full, and the others lean -/
theorem tot_lean (S : St) (hI : Inv0 S) (hL : LeanOk S) (c : Int) (h0 : S.charged 0 c = S.held 0 c) : S.tot c ≤ 2 * S.chg c + 64 * (S.heaps * S.slack) := by
  unfold St.tot St.chg
  rw [← held_all S hI, ← charged_all S hI]
  have hs := hI.s1
  have hh := hI.h1
  have hcn : 0 ≤ S.charged 0 c := charged_nn S 0 c S.sups.length
  have key : ∀ n : Nat, sumTo (fun h => S.held h c) (n + 1) ≤ 2 * sumTo (fun h => S.charged h c) (n + 1) + 64 * ((n : Int) * S.slack) := fun n => by
    induction n with
    | zero =>
      simp only [sumTo]
      have : ((0 : Nat) : Int) = 0 := rfl
      rw [this]
      omega
    | succ n ih =>
      simp only [sumTo] at ih ⊢
      have h1 := hL ((n + 1 : Nat) : Int) c (by omega)
      have h2 : 0 ≤ S.charged ((n + 1 : Nat) : Int) c := charged_nn S _ c S.sups.length
      rw [show ((n + 1 : Nat) : Int) * S.slack = (n : Int) * S.slack + S.slack by rw [show ((n + 1 : Nat) : Int) = (n : Int) + 1 by omega, Int.add_mul]; omega]
      generalize (n : Int) * S.slack = z at *
      omega
  have := key S.heaps.toNat
  rwa [Int.toNat_of_nonneg (by omega)] at this

/-- what is held of a class grows only where it is bounded anyway -/
theorem tot_malloc (S : St) (hI : Inv0 S) (hL : LeanOk S) (w size c : Int) :
    (S.malloc w size).2.tot c ≤ S.tot c ∨ (S.malloc w size).2.tot c ≤ 2 * (S.malloc w size).2.chg c + 64 * (S.heaps * S.slack + 1) := by
  unfold St.malloc
  split
  · exact .inl (Int.le_refl _)
  · rename_i hr
    split
    · simp only [St.mallocLarge]
      split
      · exact .inl (Int.le_refl _)
      · exact .inl (Int.le_refl _)
    · rename_i hs
      rcases mallocSmall_spec S hI w size (by omega) (by omega) with ⟨_, e⟩ | ⟨f, n, hf, hp, hn, _, _, _, e⟩
      · rw [e]; exact .inl (Int.le_refl _)
      · rw [e]
        simp only
        rw [tot_put S f hf]
        have hh := hI.h1
        have hm0 : 0 ≤ w % S.heaps := Int.emod_nonneg _ (by omega)
        rcases place_cases S (1 + w % S.heaps) (clsOf size) with ⟨a, _⟩ | ⟨g, hg, a, hcase⟩
        · rw [a] at hp; omega
        · have : g = f := by omega
          subst this
          rcases hcase with ⟨hm, _⟩ | ⟨_, hm, _⟩ | ⟨hfull, hfull0, hfr⟩
          · left
            have hm' := (mine_iff S _ _ _).1 hm
            by_cases ec : clsOf size = c
            · rw [if_pos ((kind_iff S c g).2 ⟨hm'.1, by omega⟩), if_pos ec]; omega
            · rw [if_neg ec]; split <;> omega
          · left
            have hm' := (mine_iff S _ _ _).1 hm
            by_cases ec : clsOf size = c
            · rw [if_pos ((kind_iff S c g).2 ⟨hm'.1, by omega⟩), if_pos ec]; omega
            · rw [if_neg ec]; split <;> omega
          · by_cases ec : clsOf size = c
            · right
              rw [if_pos ec, if_neg (fun hk => by have := ((kind_iff S c g).1 hk).1; rw [((free_spec S g).1 hfr).1] at this; cases this)]
              rw [ec] at hfull0
              have h0 := tot_lean S hI hL c (full_eq S hI 0 c hfull0)
              have h1 := chg_ins S ((S.setSup g ⟨true, clsOf size, 1 + w % S.heaps⟩).put (64 * (g : Int) + n * width (clsOf size), size)) _ rfl c
              have h2 : 0 ≤ width c := by rcases width_slots c with ⟨w, _⟩ | ⟨w, _⟩ | ⟨w, _⟩ <;> omega
              rw [h1]
              split <;> omega
            · left
              rw [if_neg ec]; split <;> omega

/-- what the most charged at once bounds -/
def BndOk (S : St) (M : Int → Int) : Prop := ∀ c, S.tot c ≤ 2 * M c + 64 * (S.heaps * S.slack + 1)
theorem bnd_new (h s : Int) (n : Nat) (M : Int → Int) (hM : ∀ c, 0 ≤ M c) (hh : 0 ≤ h) (hs : 0 ≤ s) : BndOk (newSt h n s) M := by
  intro c
  have e : (newSt h n s).tot c = 0 := by
    unfold St.tot
    rw [sumTo_congr (g' := fun _ => 0) (fun k _ => if_neg (fun hk => by
      have := ((kind_iff _ _ _).1 hk).1
      have hq : (newSt h n s).sup k = sup0 := by
        unfold St.sup newSt
        simp only [List.getElem?_replicate]
        split <;> rfl
      rw [hq] at this; cases this)), sumTo_zero]
  rw [e]
  have h1 := hM c
  have h2 : 0 ≤ h * s := Int.mul_nonneg hh hs
  have : (newSt h n s).heaps * (newSt h n s).slack = h * s := rfl
  rw [this]
  omega
theorem bnd_step {S T : St} {M M' : Int → Int} (h : BndOk S M) (hM : ∀ c, M c ≤ M' c) (hc : ∀ c, T.chg c ≤ M' c) (hh : T.heaps = S.heaps) (hs : T.slack = S.slack)
    (ht : ∀ c, T.tot c ≤ S.tot c ∨ T.tot c ≤ 2 * T.chg c + 64 * (S.heaps * S.slack + 1)) : BndOk T M' := by
  intro c
  have := h c
  have := hM c
  have := hc c
  rw [hh, hs]
  rcases ht c with h1 | h1 <;> omega

/-- a small block is refused just when there is no room -/
theorem refused (S : St) (hI : Inv0 S) (w size : Int) (hw : 0 ≤ w) (hw' : w ≤ 1000) (h1 : 1 ≤ size) (h2 : size ≤ 32) :
    let h := 1 + w % S.heaps
    let c := clsOf size
    let room := S.charged h c < S.held h c ∨ S.charged 0 c < S.held 0 c ∨ 0 < S.freeFrames
    (room → (S.malloc w size).1.2 = 0) ∧ (¬ room → (S.malloc w size).1 = (0, 2)) := by
  intro h c room
  have e0 : S.malloc w size = S.mallocSmall w size := by
    unfold St.malloc
    rw [if_neg (by omega), if_neg (by omega)]
  have hfr : ∀ n, n ≤ S.sups.length → ((∀ k, k < n → S.free k = false) → S.frees n = 0) ∧ ((∃ k, k < n ∧ S.free k = true) → 0 < S.frees n) := fun n => by
    induction n with
    | zero => intro _; exact ⟨fun _ => rfl, fun ⟨k, hk, _⟩ => by omega⟩
    | succ n ih =>
      intro hn
      obtain ⟨i1, i2⟩ := ih (by omega)
      simp only [St.frees]
      refine ⟨fun hq => ?_, fun ⟨k, hk, hq⟩ => ?_⟩
      · rw [if_neg (by rw [hq n (by omega)]; decide)]
        exact i1 (fun k hk => hq k (by omega))
      · by_cases e : k = n
        · subst e; rw [if_pos hq]; omega
        · have := i2 ⟨k, by omega, hq⟩
          split <;> omega
  rw [e0]
  have hlt : ∀ (h c : Int) (f : Nat), f < S.sups.length → S.mine h c f = true → (S.used f : Int) < slots c → S.charged h c < S.held h c := fun h c f hf hm hu => by
    rw [held_sum, charged_sum]
    have key : ∀ n, n ≤ S.sups.length → sumTo (fun k => if S.mine h c k = true then width c * (S.used k : Int) else 0) n + (if f < n then 1 else 0) ≤ sumTo (fun k => if S.mine h c k = true then 64 else 0) n := fun n => by
      induction n with
      | zero => intro _; simp [sumTo]
      | succ n ih =>
        intro hn
        have ih' := ih (by omega)
        simp only [sumTo]
        by_cases en : n = f
        · subst en
          rw [if_neg (by omega)] at ih'
          simp only [if_pos hm, if_pos (show n < n + 1 by omega)]
          have hwu : width c * (S.used n : Int) + 1 ≤ 64 := by
            rcases width_slots c with ⟨a, b⟩ | ⟨a, b⟩ | ⟨a, b⟩ <;> rw [a] <;> rw [b] at hu <;> omega
          omega
        · have hx : (if S.mine h c n = true then width c * (S.used n : Int) else 0) ≤ if S.mine h c n = true then 64 else 0 := by
            split
            · rename_i hq; exact width_used S hI h c n hq
            · exact Int.le_refl _
          by_cases hfn : f < n
          · rw [if_pos hfn] at ih'
            rw [if_pos (show f < n + 1 by omega)]; omega
          · rw [if_neg hfn] at ih'
            rw [if_neg (show ¬ f < n + 1 by omega)]; omega
    have := key _ (Nat.le_refl _)
    rw [if_pos hf] at this
    omega
  rcases place_cases S h c with ⟨a, f1, f2, f3⟩ | ⟨g, hg, a, hcase⟩
  · have hno : ¬ room := by
      rintro (hr | hr | hr)
      · have := full_eq S hI h c f1; omega
      · have := full_eq S hI 0 c f2; omega
      · have := (hfr _ (Nat.le_refl _)).1 f3
        unfold St.freeFrames at hr; omega
    refine ⟨fun hr => absurd hr hno, fun _ => ?_⟩
    rcases mallocSmall_spec S hI w size h1 h2 with ⟨_, e⟩ | ⟨f, n, hf, hp, _⟩
    · rw [e]
    · rw [a] at hp; omega
  · have hyes : room := by
      rcases hcase with ⟨hm, hu⟩ | ⟨_, hm, hu⟩ | ⟨_, _, hf⟩
      · exact .inl (hlt h c g hg hm hu)
      · exact .inr (.inl (hlt 0 c g hg hm hu))
      · exact .inr (.inr ((hfr _ (Nat.le_refl _)).2 ⟨g, hg, hf⟩))
    refine ⟨fun _ => ?_, fun hn => absurd hyes hn⟩
    rcases mallocSmall_spec S hI w size h1 h2 with ⟨hp, _⟩ | ⟨f, n, hf, hp, _, _, _, _, e⟩
    · have hp' : S.place h c = -1 := hp
      rw [a] at hp'; omega
    · rw [e]
end Ti
