
set_option linter.unusedVariables false
set_option linter.unusedSimpArgs false
/- THE PLAIN MODEL OF THE DOCUMENT: no Go, no program. A state: the superblocks by frames, the blocks by their addresses, the bytes. -/
namespace Ti

structure Sup where
  is : Bool
  cls : Int
  heap : Int

structure St where
  heaps : Int
  slack : Int
  sups : List Sup
  blocks : List (Int × Int)
  bytes : List Int

def sup0 : Sup := ⟨false, 0, 0⟩

/-- the superblock of a frame -/
def St.sup (S : St) (f : Nat) : Sup := S.sups[f]?.getD sup0
def St.byte (S : St) (a : Nat) : Int := S.bytes[a]?.getD 0
def bk (bs : List (Int × Int)) (k : Nat) : Int × Int := bs[k]?.getD (0, 0)

def width (k : Int) : Int := if k = 0 then 8 else if k = 1 then 16 else 32
def slots (k : Int) : Int := if k = 0 then 8 else if k = 1 then 4 else 2
def clsOf (size : Int) : Int := if size ≤ 8 then 0 else if size ≤ 16 then 1 else 2

/-- the number of the block with an address; -1: none -/
def atTo (bs : List (Int × Int)) (a : Int) : Nat → Int
  | 0 => -1
  | k + 1 => if 0 ≤ atTo bs a k then atTo bs a k else if (bk bs k).1 = a then k else -1
def atI (bs : List (Int × Int)) (a : Int) : Int := atTo bs a bs.length

def usedTo (bs : List (Int × Int)) (f : Int) : Nat → Nat
  | 0 => 0
  | k + 1 => if (bk bs k).1 / 64 = f then usedTo bs f k + 1 else usedTo bs f k
def usedN (bs : List (Int × Int)) (f : Int) : Nat := usedTo bs f bs.length
def St.used (S : St) (f : Nat) : Nat := usedN S.blocks f

def St.mine (S : St) (h c : Int) (k : Nat) : Bool := (S.sup k).is && (S.sup k).heap == h && (S.sup k).cls == c

/-- the fullest of a heap and class that is not full, among the first k frames: its frame, its used slots -/
def St.fullTo (S : St) (h c : Int) : Nat → Int × Int
  | 0 => (-1, -1)
  | k + 1 => if S.mine h c k = true ∧ (S.used k : Int) < slots c ∧ (S.fullTo h c k).2 < (S.used k : Int) then ((k : Int), (S.used k : Int)) else S.fullTo h c k
def St.fullest (S : St) (h c : Int) : Int := (S.fullTo h c S.sups.length).1

def St.emptyTo (S : St) (h c : Int) : Nat → Int × Int
  | 0 => (-1, 64)
  | k + 1 => if S.mine h c k = true ∧ (S.used k : Int) < (S.emptyTo h c k).2 then ((k : Int), (S.used k : Int)) else S.emptyTo h c k
def St.emptiest (S : St) (h c : Int) : Int := (S.emptyTo h c S.sups.length).1

/-- is a frame part of a large block? -/
def covers (b : Int × Int) (f : Int) : Bool := decide (32 < b.2) && decide (b.1 ≤ 64 * f) && decide (64 * f < b.1 + b.2)
def coverTo (bs : List (Int × Int)) (f : Int) : Nat → Bool
  | 0 => false
  | k + 1 => coverTo bs f k || covers (bk bs k) f
def St.free (S : St) (f : Nat) : Bool := !(S.sup f).is && !coverTo S.blocks f S.blocks.length

/-- are all of the n frames from f on free? -/
def St.allFree (S : St) (f : Nat) : Nat → Bool
  | 0 => true
  | k + 1 => S.allFree f k && S.free (f + k)
/-- the lowest of the first k frames from which on n are free; -1: none -/
def St.runTo (S : St) (n : Nat) : Nat → Int
  | 0 => -1
  | k + 1 => if 0 ≤ S.runTo n k then S.runTo n k else if S.allFree k n = true then k else -1
def St.run (S : St) (n : Nat) : Int := S.runTo n (S.sups.length + 1 - n)

def St.frees (S : St) : Nat → Nat
  | 0 => 0
  | k + 1 => if S.free k = true then S.frees k + 1 else S.frees k
def St.freeFrames (S : St) : Nat := S.frees S.sups.length

/-- is an address one of a block's bytes? -/
def hasB (b : Int × Int) (a : Int) : Bool := decide (b.1 ≤ a) && decide (a < b.1 + b.2)
def byteTo (bs : List (Int × Int)) (a : Int) : Nat → Bool
  | 0 => false
  | k + 1 => byteTo bs a k || hasB (bk bs k) a
def St.byte1 (S : St) (a : Int) : Bool := byteTo S.blocks a S.blocks.length

def St.heldTo (S : St) (h c : Int) : Nat → Int
  | 0 => 0
  | k + 1 => if S.mine h c k = true then S.heldTo h c k + 64 else S.heldTo h c k
def St.held (S : St) (h c : Int) : Int := S.heldTo h c S.sups.length
def St.chargedTo (S : St) (h c : Int) : Nat → Int
  | 0 => 0
  | k + 1 => if S.mine h c k = true then S.chargedTo h c k + width c * (S.used k : Int) else S.chargedTo h c k
def St.charged (S : St) (h c : Int) : Int := S.chargedTo h c S.sups.length

/-- a block more, in its place -/
def ins (b : Int × Int) : List (Int × Int) → List (Int × Int)
  | [] => [b]
  | x :: r => if b.1 < x.1 then b :: x :: r else x :: ins b r
/-- n bytes from a on are 0 -/
def zeroTo (l : List Int) (a : Nat) : Nat → List Int
  | 0 => l
  | k + 1 => (zeroTo l a k).set (a + k) 0
def St.put (S : St) (b : Int × Int) : St := { S with blocks := ins b S.blocks, bytes := zeroTo S.bytes b.1.toNat b.2.toNat }

/-- the lowest free slot of a frame, from address a on, at most n slots -/
def slotFrom (bs : List (Int × Int)) (wd : Int) : Nat → Int → Int
  | 0, a => a
  | n + 1, a => if 0 ≤ atI bs a then slotFrom bs wd n (a + wd) else a

def St.setSup (S : St) (f : Nat) (s : Sup) : St := { S with sups := S.sups.set f s }

/-- where a small block goes -/
def St.place (S : St) (h c : Int) : Int :=
  if 0 ≤ S.fullest h c then S.fullest h c else if 0 ≤ S.fullest 0 c then S.fullest 0 c else S.run 1

def St.mallocSmall (S : St) (worker size : Int) : (Int × Int) × St :=
  let c := clsOf size
  let h := 1 + worker % S.heaps
  let f := S.place h c
  if f < 0 then ((0, 2), S) else
    let S1 := S.setSup f.toNat ⟨true, c, h⟩
    let a := slotFrom S1.blocks (width c) 8 (64 * f)
    ((a, 0), S1.put (a, size))

def St.mallocLarge (S : St) (size : Int) : (Int × Int) × St :=
  let f := S.run ((size + 63) / 64).toNat
  if f < 0 then ((0, 2), S) else ((64 * f, 0), S.put (64 * f, size))

def St.malloc (S : St) (worker size : Int) : (Int × Int) × St :=
  if worker < 0 ∨ 1000 < worker ∨ size < 1 ∨ 256 < size then ((0, 1), S)
  else if 32 < size then S.mallocLarge size else S.mallocSmall worker size

/-- heap 0's empty superblocks among the first k frames are none any more -/
def St.sweepTo (S : St) : Nat → St
  | 0 => S
  | k + 1 => let T := S.sweepTo k; if (T.sup k).is = true ∧ (T.sup k).heap = 0 ∧ T.used k = 0 then T.setSup k sup0 else T
def St.sweep (S : St) : St := S.sweepTo S.sups.length

def St.tooMuch (S : St) (h c : Int) : Bool := decide (S.charged h c + 64 * S.slack < S.held h c) && decide (2 * S.charged h c < S.held h c)

/-- a heap that holds too much gives its emptiest away -/
def St.give (S : St) (h c : Int) : St :=
  if 0 < h ∧ S.tooMuch h c = true then S.setSup (S.emptiest h c).toNat { S.sup (S.emptiest h c).toNat with heap := 0 } else S

def St.freeAt (S : St) (a : Int) : Int × St :=
  if atI S.blocks a < 0 then (3, S) else
    let k := (atI S.blocks a).toNat
    let b := bk S.blocks k
    let S1 := { S with blocks := S.blocks.take k ++ S.blocks.drop (k + 1) }
    if 32 < b.2 then (0, S1) else
      let x := S1.sup (a / 64).toNat
      (0, (S1.give x.heap x.cls).sweep)

def St.store (S : St) (a v : Int) : Int × St :=
  if v < 0 ∨ 255 < v then (1, S) else if S.byte1 a = true then (0, { S with bytes := S.bytes.set a.toNat v }) else (4, S)
def St.load (S : St) (a : Int) : Int × Int :=
  if S.byte1 a = true then (S.byte a.toNat, 0) else (0, 4)
def St.stats (S : St) (h c : Int) : (Int × Int) × Int :=
  if h < 0 ∨ S.heaps < h ∨ c < 0 ∨ 3 ≤ c then ((0, 0), 1) else ((S.held h c, S.charged h c), 0)

def newSt (heaps frames slack : Int) : St :=
  { heaps := heaps, slack := slack, sups := List.replicate frames.toNat sup0, blocks := [], bytes := List.replicate (64 * frames.toNat) 0 }
def okConfig (heaps frames slack : Int) : Bool :=
  decide (1 ≤ heaps) && decide (heaps ≤ 4) && decide (1 ≤ frames) && decide (frames ≤ 16) && decide (1 ≤ slack) && decide (slack ≤ 4)
end Ti

/- WHAT HOLDS OF EVERY STATE, and what follows from it. Plain: no Go. -/
namespace Ti

def BlockOk (S : St) (b : Int × Int) : Prop :=
  1 ≤ b.2 ∧ b.2 ≤ 256 ∧ 0 ≤ b.1 ∧ b.1 < 64 * S.sups.length ∧
  (b.2 ≤ 32 → (S.sup (b.1 / 64).toNat).is = true ∧ (S.sup (b.1 / 64).toNat).cls = clsOf b.2 ∧ (b.1 % 64) % width (clsOf b.2) = 0) ∧
  (32 < b.2 → b.1 % 64 = 0 ∧ b.1 + b.2 ≤ 64 * S.sups.length ∧ ∀ f : Nat, b.1 ≤ 64 * f → 64 * (f : Int) < b.1 + b.2 → (S.sup f).is = false)

structure Inv0 (S : St) : Prop where
  h1 : 1 ≤ S.heaps
  h4 : S.heaps ≤ 4
  s1 : 1 ≤ S.slack
  s4 : S.slack ≤ 4
  f1 : 1 ≤ S.sups.length
  f16 : S.sups.length ≤ 16
  bz : S.bytes.length = 64 * S.sups.length
  by0 : ∀ v ∈ S.bytes, 0 ≤ v ∧ v ≤ 255
  sup : ∀ f, (S.sup f).is = true → f < S.sups.length ∧ 0 ≤ (S.sup f).cls ∧ (S.sup f).cls ≤ 2 ∧ 0 ≤ (S.sup f).heap ∧ (S.sup f).heap ≤ S.heaps
  sorted : S.blocks.Pairwise (fun a b => a.1 < b.1)
  ok : ∀ b ∈ S.blocks, BlockOk S b
  large : ∀ a ∈ S.blocks, ∀ b ∈ S.blocks, 32 < a.2 → a.1 < b.1 → a.1 + a.2 ≤ b.1

structure Inv (S : St) : Prop extends Inv0 S where
  zero : ∀ f, (S.sup f).is = true → (S.sup f).heap = 0 → S.used f ≠ 0

theorem width_slots (c : Int) : (width c = 8 ∧ slots c = 8) ∨ (width c = 16 ∧ slots c = 4) ∨ (width c = 32 ∧ slots c = 2) := by
  unfold width slots
  by_cases h0 : c = 0
  · simp [h0]
  · by_cases h1 : c = 1 <;> simp [h0, h1]
theorem cls_range (s : Int) : 0 ≤ clsOf s ∧ clsOf s ≤ 2 := by unfold clsOf; split <;> (try split) <;> omega
theorem cls_width (s : Int) (h : s ≤ 32) : s ≤ width (clsOf s) := by
  unfold clsOf
  split
  · simpa [width]
  · split
    · simpa [width]
    · simpa [width]

theorem bk_mem {bs : List (Int × Int)} {k : Nat} (h : k < bs.length) : bk bs k ∈ bs := by simp [bk, h]
theorem mem_bk {bs : List (Int × Int)} {b : Int × Int} (h : b ∈ bs) : ∃ k, k < bs.length ∧ bk bs k = b := by
  obtain ⟨k, hk, e⟩ := List.getElem_of_mem h
  exact ⟨k, hk, by simp [bk, hk, e]⟩
theorem bk_lt {bs : List (Int × Int)} (hs : bs.Pairwise (fun a b => a.1 < b.1)) {i j : Nat} (hij : i < j) (hj : j < bs.length) : (bk bs i).1 < (bk bs j).1 := by
  have := List.pairwise_iff_getElem.1 hs i j (by omega) hj hij
  simpa [bk, hj, show i < bs.length by omega] using this

theorem atTo_nn (bs : List (Int × Int)) (a : Int) (n : Nat) : (0 ≤ atTo bs a n ↔ ∃ k, k < n ∧ (bk bs k).1 = a) ∧ (0 ≤ atTo bs a n → (atTo bs a n).toNat < n ∧ (bk bs (atTo bs a n).toNat).1 = a) := by
  induction n with
  | zero => simp [atTo]
  | succ n ih =>
    obtain ⟨i1, i2⟩ := ih
    simp only [atTo]
    split
    · rename_i h
      obtain ⟨k, hk, e⟩ := i1.1 h
      exact ⟨⟨fun _ => ⟨k, by omega, e⟩, fun _ => h⟩, fun _ => ⟨by have := (i2 h).1; omega, (i2 h).2⟩⟩
    · rename_i h
      split
      · rename_i e
        exact ⟨⟨fun _ => ⟨n, by omega, e⟩, fun _ => by omega⟩, fun _ => ⟨by omega, by simpa using e⟩⟩
      · rename_i e
        refine ⟨⟨fun h => by omega, fun ⟨k, hk, e'⟩ => ?_⟩, fun h => by omega⟩
        by_cases hkn : k = n
        · subst hkn; exact absurd e' e
        · exact absurd (i1.2 ⟨k, by omega, e'⟩) h
theorem atI_nn (bs : List (Int × Int)) (a : Int) : 0 ≤ atI bs a ↔ ∃ b ∈ bs, b.1 = a := by
  rw [atI, (atTo_nn bs a bs.length).1]
  exact ⟨fun ⟨k, hk, e⟩ => ⟨_, bk_mem hk, e⟩, fun ⟨b, hb, e⟩ => by obtain ⟨k, hk, e'⟩ := mem_bk hb; exact ⟨k, hk, by rw [e']; exact e⟩⟩
theorem atI_at (bs : List (Int × Int)) (a : Int) (h : 0 ≤ atI bs a) : (atI bs a).toNat < bs.length ∧ (bk bs (atI bs a).toNat).1 = a := (atTo_nn bs a bs.length).2 h

/-! ### how many slots are used -/
theorem usedTo_countP (bs : List (Int × Int)) (f : Int) (n : Nat) (hn : n ≤ bs.length) : usedTo bs f n = (bs.take n).countP (fun b => b.1 / 64 == f) := by
  induction n with
  | zero => simp [usedTo]
  | succ n ih =>
    have e : bs.take (n + 1) = bs.take n ++ [bk bs n] := by
      rw [List.take_succ_eq_append_getElem (show n < bs.length by omega)]; simp [bk, show n < bs.length by omega]
    rw [e, List.countP_append, usedTo, ih (by omega)]
    by_cases h : (bk bs n).1 / 64 = f <;> simp [h]
theorem usedN_countP (bs : List (Int × Int)) (f : Int) : usedN bs f = bs.countP (fun b => b.1 / 64 == f) := by
  rw [usedN, usedTo_countP _ _ _ (Nat.le_refl _), List.take_length]

/-- how many of n addresses are a block's -/
def occ (bs : List (Int × Int)) (a wd : Int) : Nat → Nat
  | 0 => 0
  | n + 1 => if 0 ≤ atI bs (a + n * wd) then occ bs a wd n + 1 else occ bs a wd n

theorem countP_addr (bs : List (Int × Int)) (hs : bs.Pairwise (fun a b => a.1 < b.1)) (a : Int) : bs.countP (fun b => b.1 == a) = if 0 ≤ atI bs a then 1 else 0 := by
  induction bs with
  | nil => simp [atI, atTo]
  | cons x r ih =>
    rw [List.pairwise_cons] at hs
    have hi := ih hs.2
    rw [List.countP_cons, hi]
    have e1 := atI_nn (x :: r) a
    have e2 := atI_nn r a
    by_cases hx : x.1 = a
    · have : ¬ 0 ≤ atI r a := by
        rw [e2]; rintro ⟨b, hb, e⟩
        have := hs.1 b hb; omega
      have h3 : 0 ≤ atI (x :: r) a := e1.2 ⟨x, by simp, hx⟩
      simp [this, h3, hx]
    · by_cases h4 : 0 ≤ atI r a
      · obtain ⟨b, hb, e⟩ := e2.1 h4
        have h3 : 0 ≤ atI (x :: r) a := e1.2 ⟨b, by simp [hb], e⟩
        simp [h4, h3, hx]
      · have h3 : ¬ 0 ≤ atI (x :: r) a := by
          rw [e1]; rintro ⟨b, hb, e⟩
          simp at hb
          rcases hb with rfl | hb
          · exact hx e
          · exact h4 (e2.2 ⟨b, hb, e⟩)
        simp [h4, h3, hx]

theorem countP_or {α : Type} (p q : α → Bool) (l : List α) (h : ∀ x ∈ l, ¬ (p x = true ∧ q x = true)) : l.countP (fun x => p x || q x) = l.countP p + l.countP q := by
  induction l with
  | nil => rfl
  | cons x r ih =>
    have hi := ih (fun y hy => h y (by simp [hy]))
    have hx := h x (by simp)
    simp only [List.countP_cons, hi]
    cases hp : p x <;> cases hq : q x <;> simp_all <;> omega

theorem countP_occ (bs : List (Int × Int)) (hs : bs.Pairwise (fun a b => a.1 < b.1)) (a wd : Int) (hw : 0 < wd) (n : Nat) :
    bs.countP (fun b => decide (a ≤ b.1) && decide (b.1 < a + n * wd) && decide ((b.1 - a) % wd = 0)) = occ bs a wd n := by
  induction n with
  | zero =>
    simp only [occ]
    rw [List.countP_eq_zero]
    intro b _; simp; intro h1 h2; omega
  | succ n ih =>
    have e : (fun b : Int × Int => decide (a ≤ b.1) && decide (b.1 < a + ((n + 1 : Nat) : Int) * wd) && decide ((b.1 - a) % wd = 0)) =
        (fun b => (decide (a ≤ b.1) && decide (b.1 < a + (n : Int) * wd) && decide ((b.1 - a) % wd = 0)) || (b.1 == a + n * wd)) := by
      funext b
      rw [Bool.eq_iff_iff]
      simp
      have hsucc : ((n : Int) + 1) * wd = n * wd + wd := by rw [Int.add_mul, Int.one_mul]
      rw [hsucc]
      constructor
      · rintro ⟨⟨h1, h2⟩, h3⟩
        by_cases h4 : b.1 < a + n * wd
        · exact .inl ⟨⟨h1, h4⟩, h3⟩
        · right
          obtain ⟨q, hq⟩ := Int.dvd_of_emod_eq_zero h3
          have h5 : b.1 - a = wd * q := hq
          have h6 : (n : Int) ≤ q := by
            apply Int.not_lt.1; intro hlt
            have : q * wd < n * wd := Int.mul_lt_mul_of_pos_right hlt hw
            rw [Int.mul_comm] at h5; omega
          have h7 : q < (n : Int) + 1 := by
            apply Int.not_le.1; intro hle
            have : ((n : Int) + 1) * wd ≤ q * wd := Int.mul_le_mul_of_nonneg_right hle (by omega)
            rw [Int.mul_comm] at h5; rw [hsucc] at this; omega
          have h8 : q = n := by omega
          rw [h8, Int.mul_comm] at h5; omega
      · rintro (⟨⟨h1, h2⟩, h3⟩ | h)
        · exact ⟨⟨h1, by omega⟩, h3⟩
        · have hnn : 0 ≤ (n : Int) * wd := Int.mul_nonneg (by omega) (by omega)
          refine ⟨⟨by omega, by omega⟩, ?_⟩
          rw [show b.1 - a = n * wd by omega, Int.mul_emod_left]
    rw [e, countP_or, ih, countP_addr bs hs]
    · simp only [occ]; split <;> rfl
    · rintro b _ ⟨h1, h2⟩
      simp at h1 h2; omega

/-- a superblock's used slots, slot by slot -/
theorem used_occ (S : St) (hI : Inv0 S) (f : Nat) (hf : (S.sup f).is = true) : S.used f = occ S.blocks (64 * f) (width (S.sup f).cls) (slots (S.sup f).cls).toNat := by
  have hw := width_slots (S.sup f).cls
  rw [← countP_occ _ hI.sorted _ _ (by omega), St.used, usedN_countP]
  apply List.countP_congr
  intro b hb
  obtain ⟨o1, o2, o3, o4, o5, o6⟩ := hI.ok b hb
  simp
  have hp : (slots (S.sup f).cls).toNat * width (S.sup f).cls = 64 := by rcases hw with h | h | h <;> rw [h.1, h.2] <;> rfl
  have hp' : (((slots (S.sup f).cls).toNat : Nat) : Int) * width (S.sup f).cls = 64 := hp
  have hp2 : max (slots (S.sup f).cls) 0 * width (S.sup f).cls = 64 := by rcases hw with h | h | h <;> rw [h.1, h.2] <;> rfl
  rw [hp2]
  constructor
  · intro h
    refine ⟨⟨by omega, by omega⟩, ?_⟩
    by_cases hs : b.2 ≤ 32
    · obtain ⟨p1, p2, p3⟩ := o5 hs
      have e : (b.1 / 64).toNat = f := by omega
      rw [e] at p1 p2
      rw [← p2] at p3
      rw [show b.1 - 64 * (f : Int) = b.1 % 64 by omega]
      exact p3
    · obtain ⟨p1, p2, p3⟩ := o6 (by omega)
      have := p3 f (by omega) (by omega)
      rw [this] at hf; cases hf
  · rintro ⟨⟨h1, h2⟩, _⟩
    omega

theorem occ_le (bs : List (Int × Int)) (a wd : Int) (n : Nat) : occ bs a wd n ≤ n := by
  induction n with
  | zero => simp [occ]
  | succ n ih => simp only [occ]; split <;> omega
theorem occ_full (bs : List (Int × Int)) (a wd : Int) (n : Nat) (h : ∀ m, m < n → 0 ≤ atI bs (a + m * wd)) : occ bs a wd n = n := by
  induction n with
  | zero => rfl
  | succ n ih => rw [occ, if_pos (h n (by omega)), ih (fun m hm => h m (by omega))]
/-- the lowest free slot -/
theorem free_slot (bs : List (Int × Int)) (a wd : Int) (n : Nat) (h : occ bs a wd n < n) : ∃ m, m < n ∧ atI bs (a + m * wd) < 0 ∧ ∀ j, j < m → 0 ≤ atI bs (a + j * wd) := by
  induction n with
  | zero => omega
  | succ n ih =>
    by_cases hl : occ bs a wd n < n
    · obtain ⟨m, h1, h2, h3⟩ := ih hl
      exact ⟨m, by omega, h2, h3⟩
    · have hfull : ∀ m, m < n → 0 ≤ atI bs (a + m * wd) := by
        intro m hm
        apply Int.not_lt.1; intro hneg
        have : ∀ k, m < k → occ bs a wd k < k := by
          intro k
          induction k with
          | zero => omega
          | succ k ihk =>
            intro hmk
            by_cases e : m = k
            · subst e; rw [occ, if_neg (by omega)]; have := occ_le bs a wd m; omega
            · have := ihk (by omega)
              simp only [occ]; split <;> omega
        exact hl (this n hm)
      refine ⟨n, by omega, ?_, hfull⟩
      apply Int.not_le.1; intro h0
      rw [occ, if_pos h0, occ_full _ _ _ _ hfull] at h
      omega
end Ti

namespace Ti

theorem fullTo_spec (S : St) (h c : Int) (n : Nat) : ((S.fullTo h c n).1 = -1 ∧ (S.fullTo h c n).2 = -1 ∧ ∀ k, k < n → S.mine h c k = true → slots c ≤ S.used k) ∨
    ∃ f, f < n ∧ (S.fullTo h c n).1 = (f : Int) ∧ (S.fullTo h c n).2 = (S.used f : Int) ∧ S.mine h c f = true ∧ (S.used f : Int) < slots c := by
  induction n with
  | zero => exact .inl ⟨rfl, rfl, fun k hk => by omega⟩
  | succ n ih =>
    simp only [St.fullTo]
    split
    · rename_i hc
      exact .inr ⟨n, by omega, rfl, rfl, hc.1, hc.2.1⟩
    · rename_i hc
      rcases ih with ⟨a, b, d⟩ | ⟨f, hf, a⟩
      · refine .inl ⟨a, b, fun k hk hm => ?_⟩
        by_cases e : k = n
        · subst e
          apply Int.not_lt.1; intro hl
          exact hc ⟨hm, hl, by rw [b]; omega⟩
        · exact d k (by omega) hm
      · exact .inr ⟨f, by omega, a⟩
theorem fullest_spec (S : St) (h c : Int) : (S.fullest h c = -1 ∧ ∀ k, k < S.sups.length → S.mine h c k = true → slots c ≤ S.used k) ∨
    ∃ f : Nat, f < S.sups.length ∧ S.fullest h c = (f : Int) ∧ S.mine h c f = true ∧ (S.used f : Int) < slots c := by
  rcases fullTo_spec S h c S.sups.length with ⟨a, _, d⟩ | ⟨f, hf, a, _, d⟩
  · exact .inl ⟨a, d⟩
  · exact .inr ⟨f, hf, a, d⟩
theorem emptyTo_spec (S : St) (h c : Int) (n : Nat) : ((S.emptyTo h c n).1 = -1 ∧ (S.emptyTo h c n).2 = 64 ∧ ∀ k, k < n → S.mine h c k = true → 64 ≤ S.used k) ∨
    ∃ f, f < n ∧ (S.emptyTo h c n).1 = (f : Int) ∧ (S.emptyTo h c n).2 = (S.used f : Int) ∧ S.mine h c f = true ∧ S.used f < 64 ∧ ∀ k, k < n → S.mine h c k = true → S.used f ≤ S.used k := by
  induction n with
  | zero => exact .inl ⟨rfl, rfl, fun k hk => by omega⟩
  | succ n ih =>
    simp only [St.emptyTo]
    split
    · rename_i hc
      refine .inr ⟨n, by omega, rfl, rfl, hc.1, ?_, fun k hk hm => ?_⟩
      · rcases ih with ⟨a, b, d⟩ | ⟨f, hf, a, b, d⟩
        · have := hc.2; omega
        · have := hc.2; omega
      · by_cases e : k = n
        · subst e; omega
        · have := hc.2
          rcases ih with ⟨a, b, d⟩ | ⟨f, hf, a, b, d1, d2, d3⟩
          · have := d k (by omega) hm; omega
          · have := d3 k (by omega) hm; omega
    · rename_i hc
      rcases ih with ⟨a, b, d⟩ | ⟨f, hf, a, b, d1, d2, d3⟩
      · refine .inl ⟨a, b, fun k hk hm => ?_⟩
        by_cases e : k = n
        · subst e
          have : ¬ ((S.used k : Int) < (S.emptyTo h c k).2) := fun hl => hc ⟨hm, hl⟩
          omega
        · exact d k (by omega) hm
      · refine .inr ⟨f, by omega, a, b, d1, d2, fun k hk hm => ?_⟩
        by_cases e : k = n
        · subst e
          have : ¬ ((S.used k : Int) < (S.emptyTo h c k).2) := fun hl => hc ⟨hm, hl⟩
          omega
        · exact d3 k (by omega) hm

theorem coverTo_spec (bs : List (Int × Int)) (f : Int) (n : Nat) : coverTo bs f n = true ↔ ∃ k, k < n ∧ covers (bk bs k) f = true := by
  induction n with
  | zero => simp [coverTo]
  | succ n ih =>
    simp only [coverTo, Bool.or_eq_true, ih]
    constructor
    · rintro (⟨k, hk, h⟩ | h)
      · exact ⟨k, by omega, h⟩
      · exact ⟨n, by omega, h⟩
    · rintro ⟨k, hk, h⟩
      by_cases e : k = n
      · subst e; exact .inr h
      · exact .inl ⟨k, by omega, h⟩
theorem free_spec (S : St) (f : Nat) : S.free f = true ↔ (S.sup f).is = false ∧ ∀ b ∈ S.blocks, 32 < b.2 → ¬ (b.1 ≤ 64 * f ∧ 64 * (f : Int) < b.1 + b.2) := by
  simp only [St.free, Bool.and_eq_true, Bool.not_eq_true']
  refine and_congr Iff.rfl ?_
  constructor
  · intro h b hb h1 h2
    obtain ⟨k, hk, e⟩ := mem_bk hb
    have : coverTo S.blocks f S.blocks.length = true := (coverTo_spec _ _ _).2 ⟨k, hk, by rw [e]; simp [covers, h1, h2.1, h2.2]⟩
    rw [this] at h; cases h
  · intro h
    cases hc : coverTo S.blocks f S.blocks.length
    · rfl
    · obtain ⟨k, hk, e⟩ := (coverTo_spec _ _ _).1 hc
      simp [covers] at e
      exact absurd ⟨e.1.2, e.2⟩ (h _ (bk_mem hk) e.1.1)
theorem allFree_spec (S : St) (f n : Nat) : S.allFree f n = true ↔ ∀ k, k < n → S.free (f + k) = true := by
  induction n with
  | zero => simp [St.allFree]
  | succ n ih =>
    simp only [St.allFree, Bool.and_eq_true, ih]
    constructor
    · rintro ⟨h1, h2⟩ k hk
      by_cases e : k = n
      · subst e; exact h2
      · exact h1 k (by omega)
    · intro h; exact ⟨fun k hk => h k (by omega), h n (by omega)⟩
theorem runTo_spec (S : St) (n m : Nat) : (S.runTo n m = -1 ∧ ∀ k, k < m → S.allFree k n = false) ∨ ∃ f : Nat, f < m ∧ S.runTo n m = (f : Int) ∧ S.allFree f n = true := by
  induction m with
  | zero => exact .inl ⟨rfl, fun k hk => by omega⟩
  | succ m ih =>
    simp only [St.runTo]
    rcases ih with ⟨a, b⟩ | ⟨f, hf, a, b⟩
    · rw [if_neg (by omega)]
      cases hc : S.allFree m n
      · refine .inl ⟨by simp, fun k hk => ?_⟩
        by_cases e : k = m
        · subst e; exact hc
        · exact b k (by omega)
      · exact .inr ⟨m, by omega, by simp, hc⟩
    · rw [if_pos (by omega)]; exact .inr ⟨f, by omega, a, b⟩
theorem run_spec (S : St) (n : Nat) : (S.run n = -1 ∧ ∀ k, k + n < S.sups.length + 1 → S.allFree k n = false) ∨ ∃ f : Nat, f + n < S.sups.length + 1 ∧ S.run n = (f : Int) ∧ S.allFree f n = true := by
  rcases runTo_spec S n (S.sups.length + 1 - n) with ⟨a, b⟩ | ⟨f, hf, a, b⟩
  · exact .inl ⟨a, fun k hk => b k (by omega)⟩
  · exact .inr ⟨f, by omega, a, b⟩

/-! ### the place of a small block -/
/-- it is a superblock of the class with room, of that heap or of heap 0; or a free frame -/
theorem place_spec (S : St) (h c : Int) : (S.place h c = -1) ∨ ∃ f : Nat, f < S.sups.length ∧ S.place h c = (f : Int) ∧
    (((S.sup f).is = true ∧ (S.sup f).cls = c ∧ (S.sup f).heap = h ∧ (S.used f : Int) < slots c) ∨ ((S.sup f).is = true ∧ (S.sup f).cls = c ∧ (S.sup f).heap = 0 ∧ (S.used f : Int) < slots c) ∨ S.free f = true) := by
  unfold St.place
  rcases fullest_spec S h c with ⟨a, _⟩ | ⟨f, hf, a, m, u⟩
  · rw [if_neg (by omega)]
    rcases fullest_spec S 0 c with ⟨a, _⟩ | ⟨f, hf, a, m, u⟩
    · rw [if_neg (by omega)]
      rcases run_spec S 1 with ⟨a, _⟩ | ⟨f, hf, a, b⟩
      · exact .inl a
      · exact .inr ⟨f, by omega, a, .inr (.inr (by simpa using (allFree_spec S f 1).1 b 0 (by omega)))⟩
    · rw [if_pos (by omega)]
      simp [St.mine] at m
      exact .inr ⟨f, hf, a, .inr (.inl ⟨m.1.1, m.2, m.1.2, u⟩)⟩
  · rw [if_pos (by omega)]
    simp [St.mine] at m
    exact .inr ⟨f, hf, a, .inl ⟨m.1.1, m.2, m.1.2, u⟩⟩

/-- no block begins in a frame that is free -/
theorem free_none (S : St) (hI : Inv0 S) (f : Nat) (hf : S.free f = true) (b : Int × Int) (hb : b ∈ S.blocks) : b.1 / 64 ≠ f := by
  intro e
  obtain ⟨o1, o2, o3, o4, o5, o6⟩ := hI.ok b hb
  obtain ⟨g1, g2⟩ := (free_spec S f).1 hf
  by_cases hs : b.2 ≤ 32
  · have := (o5 hs).1
    rw [show (b.1 / 64).toNat = f by omega, g1] at this; cases this
  · have h6 := o6 (by omega)
    exact g2 b hb (by omega) ⟨by omega, by omega⟩

/-- there is a free slot where a small block goes -/
theorem place_slot (S : St) (hI : Inv0 S) (c : Int) (f : Nat)
    (h : ((S.sup f).is = true ∧ (S.sup f).cls = c ∧ (S.used f : Int) < slots c) ∨ S.free f = true) :
    ∃ n : Nat, (n : Int) < slots c ∧ atI S.blocks (64 * f + n * width c) < 0 ∧ (∀ m : Nat, m < n → 0 ≤ atI S.blocks (64 * f + m * width c)) := by
  have hw := width_slots c
  rcases h with ⟨h1, h2, h3⟩ | h
  · have hu := used_occ S hI f h1
    rw [h2] at hu
    rw [hu] at h3
    obtain ⟨m, a, b, d⟩ := free_slot S.blocks (64 * f) (width c) (slots c).toNat (by omega)
    exact ⟨m, by omega, b, d⟩
  · refine ⟨0, by omega, ?_, fun m hm => by omega⟩
    apply Int.not_le.1
    intro h0
    obtain ⟨b, hb, e⟩ := (atI_nn _ _).1 h0
    refine free_none S hI f h b hb ?_
    simp at e; omega

theorem slotFrom_at' (bs : List (Int × Int)) (wd : Int) (a : Int) (n N : Nat) (hn : n < N) (h1 : atI bs (a + n * wd) < 0) (h2 : ∀ m : Nat, m < n → 0 ≤ atI bs (a + m * wd)) : slotFrom bs wd N a = a + n * wd := by
  induction N generalizing n a with
  | zero => omega
  | succ N ih =>
    cases n with
    | zero =>
      simp at h1 ⊢
      rw [slotFrom, if_neg (by omega)]
    | succ n =>
      have h0 := h2 0 (by omega)
      simp at h0
      rw [slotFrom, if_pos h0]
      have e : ∀ m : Nat, a + ((m + 1 : Nat) : Int) * wd = (a + wd) + (m : Int) * wd := by
        intro m
        rw [show ((m + 1 : Nat) : Int) = (m : Int) + 1 by omega, Int.add_mul, Int.one_mul]; omega
      rw [ih (a + wd) n (by omega) (by rw [← e]; exact h1) (fun m hm => by rw [← e]; exact h2 (m + 1) (by omega)), ← e]

/-! ### a block more -/
theorem mem_ins (b x : Int × Int) (l : List (Int × Int)) : x ∈ ins b l ↔ x = b ∨ x ∈ l := by
  induction l with
  | nil => simp [ins]
  | cons y r ih =>
    simp only [ins]
    split
    · simp
    · simp [ih]; constructor
      · rintro (h | h | h) <;> simp [h]
      · rintro (h | h | h) <;> simp [h]
theorem ins_sorted (b : Int × Int) (l : List (Int × Int)) (hs : l.Pairwise (fun a b => a.1 < b.1)) (hn : ∀ x ∈ l, x.1 ≠ b.1) : (ins b l).Pairwise (fun a b => a.1 < b.1) := by
  induction l with
  | nil => simp [ins]
  | cons y r ih =>
    rw [List.pairwise_cons] at hs
    simp only [ins]
    split
    · rename_i h
      rw [List.pairwise_cons, List.pairwise_cons]
      refine ⟨fun x hx => ?_, hs⟩
      simp at hx
      rcases hx with rfl | hx
      · exact h
      · have := hs.1 x hx; omega
    · rename_i h
      rw [List.pairwise_cons]
      refine ⟨fun x hx => ?_, ih hs.2 (fun x hx => hn x (by simp [hx]))⟩
      rw [mem_ins] at hx
      rcases hx with rfl | hx
      · have := hn y (by simp); omega
      · exact hs.1 x hx
theorem countP_ins (p : Int × Int → Bool) (b : Int × Int) (l : List (Int × Int)) : (ins b l).countP p = l.countP p + if p b = true then 1 else 0 := by
  induction l with
  | nil => simp [ins, List.countP_cons]
  | cons y r ih =>
    simp only [ins]
    split
    · simp only [List.countP_cons]
    · simp only [List.countP_cons, ih]; omega
theorem ins_length (b : Int × Int) (l : List (Int × Int)) : (ins b l).length = l.length + 1 := by
  induction l with
  | nil => rfl
  | cons y r ih => simp only [ins]; split <;> simp [ih]
theorem used_put (S : St) (b : Int × Int) (f : Nat) : (S.put b).used f = S.used f + if b.1 / 64 = f then 1 else 0 := by
  simp only [St.used, usedN_countP, St.put, countP_ins]
  simp
theorem zeroTo_length (l : List Int) (a k : Nat) : (zeroTo l a k).length = l.length := by
  induction k with
  | zero => rfl
  | succ k ih => simp [zeroTo, ih]
theorem zeroTo_range (l : List Int) (h : ∀ v ∈ l, 0 ≤ v ∧ v ≤ 255) (a k : Nat) : ∀ v ∈ zeroTo l a k, 0 ≤ v ∧ v ≤ 255 := by
  induction k with
  | zero => exact h
  | succ k ih =>
    intro v hv
    rcases List.mem_or_eq_of_mem_set hv with h | rfl
    · exact ih v h
    · omega
theorem sup_setSup (S : St) (f k : Nat) (s : Sup) (hf : f < S.sups.length) : (S.setSup f s).sup k = if k = f then s else S.sup k := by
  by_cases e : k = f
  · subst e; simp [St.setSup, St.sup, hf]
  · simp [St.setSup, St.sup, List.getElem?_set, e, Ne.symm e]
theorem len_setSup (S : St) (f : Nat) (s : Sup) : (S.setSup f s).sups.length = S.sups.length := by simp [St.setSup]
end Ti

namespace Ti

theorem inv_new (h s : Int) (n : Nat) (h1 : 1 ≤ h) (h4 : h ≤ 4) (n1 : 1 ≤ n) (n16 : n ≤ 16) (s1 : 1 ≤ s) (s4 : s ≤ 4) : Inv (newSt h n s) := by
  have hsup : ∀ f, ((newSt h n s).sup f).is = false := by
    intro f
    simp only [St.sup, newSt, Int.toNat_natCast, List.getElem?_replicate]
    split <;> rfl
  refine ⟨⟨h1, h4, s1, s4, by simpa [newSt] using n1, by simpa [newSt] using n16, by simp [newSt], ?_, ?_, by simp [newSt], by simp [newSt], by simp [newSt]⟩, ?_⟩
  · intro v hv; simp [newSt] at hv; omega
  · intro f hf; rw [hsup] at hf; cases hf
  · intro f hf; rw [hsup] at hf; cases hf

/-- where a small block goes: its frame, its slot -/
theorem mallocSmall_spec (S : St) (hI : Inv0 S) (worker size : Int) (hs1 : 1 ≤ size) (hs : size ≤ 32) :
    (S.place (1 + worker % S.heaps) (clsOf size) = -1 ∧ S.mallocSmall worker size = ((0, 2), S)) ∨
    ∃ (f n : Nat), f < S.sups.length ∧ S.place (1 + worker % S.heaps) (clsOf size) = (f : Int) ∧ (n : Int) < slots (clsOf size) ∧
      (((S.sup f).is = true ∧ (S.sup f).cls = clsOf size ∧ (S.used f : Int) < slots (clsOf size)) ∨ S.free f = true) ∧
      atI S.blocks (64 * f + n * width (clsOf size)) < 0 ∧ (∀ m : Nat, m < n → 0 ≤ atI S.blocks (64 * f + m * width (clsOf size))) ∧
      S.mallocSmall worker size = ((64 * f + n * width (clsOf size), 0), (S.setSup f ⟨true, clsOf size, 1 + worker % S.heaps⟩).put (64 * f + n * width (clsOf size), size)) := by
  rcases place_spec S (1 + worker % S.heaps) (clsOf size) with h | ⟨f, hf, hp, h⟩
  · left
    refine ⟨h, ?_⟩
    simp only [St.mallocSmall]
    rw [if_pos (by omega)]
  · right
    have h' : ((S.sup f).is = true ∧ (S.sup f).cls = clsOf size ∧ (S.used f : Int) < slots (clsOf size)) ∨ S.free f = true := by
      rcases h with h | h | h
      · exact .inl ⟨h.1, h.2.1, h.2.2.2⟩
      · exact .inl ⟨h.1, h.2.1, h.2.2.2⟩
      · exact .inr h
    obtain ⟨n, hn, h1, h2⟩ := place_slot S hI (clsOf size) f h'
    refine ⟨f, n, hf, hp, hn, h', h1, h2, ?_⟩
    have hw := width_slots (clsOf size)
    simp only [St.mallocSmall, hp]
    rw [if_neg (by omega)]
    have e : slotFrom ((S.setSup (f : Int).toNat ⟨true, clsOf size, 1 + worker % S.heaps⟩).blocks) (width (clsOf size)) 8 (64 * f) = 64 * f + n * width (clsOf size) :=
      slotFrom_at' _ _ _ n 8 (by omega) h1 h2
    rw [e]; rfl

theorem slot_bounds (c : Int) (n : Nat) (h : (n : Int) < slots c) : 0 ≤ (n : Int) * width c ∧ n * width c + width c ≤ 64 ∧ (n * width c) % width c = 0 ∧ 0 < width c := by
  have hw := width_slots c
  rcases hw with ⟨a, b⟩ | ⟨a, b⟩ | ⟨a, b⟩ <;> rw [a] <;> rw [b] at h <;> omega

theorem inv_mallocSmall (S : St) (hI : Inv S) (worker size : Int) (hw0 : 0 ≤ worker) (hs1 : 1 ≤ size) (hs : size ≤ 32) : Inv (S.mallocSmall worker size).2 := by
  rcases mallocSmall_spec S hI.toInv0 worker size hs1 hs with ⟨_, h⟩ | ⟨f, n, hf, _, hn, hp, h1, h2, h⟩
  · rw [h]; exact hI
  · rw [h]
    have hc := cls_range size
    have hb := slot_bounds (clsOf size) n hn
    have hwd := cls_width size hs
    have hh : 0 ≤ worker % S.heaps ∧ worker % S.heaps < S.heaps := ⟨Int.emod_nonneg _ (by have := hI.h1; omega), Int.emod_lt_of_pos _ (by have := hI.h1; omega)⟩
    have hz1 := hI.h1
    have hpr : 1 ≤ 1 + worker % S.heaps ∧ 1 + worker % S.heaps ≤ S.heaps := by omega
    clear h hh
    generalize hcd : clsOf size = c at *
    generalize 1 + worker % S.heaps = hp' at *
    have hsup : ∀ k, ((S.setSup f ⟨true, c, hp'⟩).put (64 * f + n * width c, size)).sup k = if k = f then ⟨true, c, hp'⟩ else S.sup k := fun k => sup_setSup S f k _ hf
    have hlen : ((S.setSup f ⟨true, c, hp'⟩).put (64 * f + n * width c, size)).sups.length = S.sups.length := len_setSup S f _
    have hbl : ((S.setSup f ⟨true, c, hp'⟩).put (64 * f + n * width c, size)).blocks = ins (64 * f + n * width c, size) S.blocks := rfl
    have hus : ∀ k, ((S.setSup f ⟨true, c, hp'⟩).put (64 * f + n * width c, size)).used k = S.used k + if (64 * (f : Int) + n * width c) / 64 = k then 1 else 0 := fun k => used_put (S.setSup f ⟨true, c, hp'⟩) _ k
    have hcov : ∀ b ∈ S.blocks, 32 < b.2 → ¬ (b.1 ≤ 64 * f ∧ 64 * (f : Int) < b.1 + b.2) := by
      intro b hb hl hcv
      rcases hp with hp | hp
      · have := (hI.ok b hb).2.2.2.2.2 hl
        have := this.2.2 f hcv.1 hcv.2
        rw [hp.1] at this; cases this
      · exact ((free_spec S f).1 hp).2 b hb hl hcv
    refine ⟨⟨hI.h1, hI.h4, hI.s1, hI.s4, by rw [hlen]; exact hI.f1, by rw [hlen]; exact hI.f16, ?_, ?_, ?_, ?_, ?_, ?_⟩, ?_⟩
    · rw [hlen]; simp only [St.put, zeroTo_length]; exact hI.bz
    · exact zeroTo_range _ hI.by0 _ _
    · intro k hk
      rw [hlen]
      rw [hsup] at hk ⊢
      split at hk
      · rename_i e
        rw [if_pos e]
        exact ⟨by omega, hc.1, hc.2, by show 0 ≤ hp'; omega, hpr.2⟩
      · rename_i e
        rw [if_neg e]
        exact hI.sup k hk
    · rw [hbl]
      refine ins_sorted _ _ hI.sorted (fun x hx e => ?_)
      have := (atI_nn S.blocks (64 * f + n * width c)).2 ⟨x, hx, e⟩
      omega
    · rw [hbl]
      intro b hb
      rw [mem_ins] at hb
      rcases hb with rfl | hb
      · refine ⟨hs1, by show size ≤ 256; omega, by show 0 ≤ 64 * (f : Int) + n * width c; omega, by rw [hlen]; show 64 * (f : Int) + n * width c < _; omega, fun _ => ?_, fun h => by have : 32 < size := h; omega⟩
        have e : ((64 * (f : Int) + n * width c) / 64).toNat = f := by omega
        show (St.sup _ ((64 * (f : Int) + n * width c) / 64).toNat).is = true ∧ (St.sup _ ((64 * (f : Int) + n * width c) / 64).toNat).cls = clsOf size ∧ ((64 * (f : Int) + n * width c) % 64) % width (clsOf size) = 0
        rw [e, hsup, if_pos rfl, hcd]
        refine ⟨rfl, rfl, ?_⟩
        rw [show (64 * (f : Int) + n * width c) % 64 = n * width c by omega]
        exact hb.2.2.1
      · obtain ⟨o1, o2, o3, o4, o5, o6⟩ := hI.ok b hb
        refine ⟨o1, o2, o3, by rw [hlen]; exact o4, fun hs => ?_, fun hl => ?_⟩
        · obtain ⟨q1, q2, q3⟩ := o5 hs
          rw [hsup]
          split
          · rename_i e
            rcases hp with hp | hp
            · rw [e] at q2
              exact ⟨rfl, by rw [← q2, hp.2.1], q3⟩
            · exact absurd (show b.1 / 64 = f by omega) (free_none S hI.toInv0 f hp b hb)
          · exact ⟨q1, q2, q3⟩
        · obtain ⟨q1, q2, q3⟩ := o6 hl
          refine ⟨q1, by rw [hlen]; exact q2, fun k hk1 hk2 => ?_⟩
          rw [hsup]
          split
          · rename_i e; subst e
            exact absurd ⟨hk1, hk2⟩ (hcov b hb hl)
          · exact q3 k hk1 hk2
    · rw [hbl]
      intro x hx y hy hl hlt
      rw [mem_ins] at hx hy
      rcases hx with rfl | hx
      · have : 32 < size := hl; omega
      · rcases hy with rfl | hy
        · have h1' : x.1 < 64 * (f : Int) + n * width c := hlt
          show x.1 + x.2 ≤ 64 * (f : Int) + n * width c
          have q1 := ((hI.ok x hx).2.2.2.2.2 hl).1
          apply Int.not_lt.1; intro hgt
          exact hcov x hx hl ⟨by omega, by omega⟩
        · exact hI.large x hx y hy hl hlt
    · intro k hk hz
      rw [hsup] at hk hz
      rw [hus]
      split at hk
      · rename_i e
        rw [if_pos e] at hz
        have : hp' = 0 := hz
        omega
      · rename_i e
        rw [if_neg e] at hz
        have := hI.zero k hk hz
        omega

theorem run_free (S : St) (n f : Nat) (h : S.run n = (f : Int)) : f + n < S.sups.length + 1 ∧ ∀ k, k < n → S.free (f + k) = true := by
  rcases run_spec S n with ⟨a, _⟩ | ⟨g, hg, a, b⟩
  · omega
  · have : g = f := by omega
    subst this
    exact ⟨hg, (allFree_spec S g n).1 b⟩

theorem inv_mallocLarge (S : St) (hI : Inv S) (size : Int) (hs1 : 32 < size) (hs : size ≤ 256) : Inv (S.mallocLarge size).2 := by
  simp only [St.mallocLarge]
  split
  · exact hI
  · rename_i hneg
    obtain ⟨f, hf⟩ := Int.eq_ofNat_of_zero_le (show 0 ≤ S.run ((size + 63) / 64).toNat by omega)
    rw [hf]
    obtain ⟨r1, r2⟩ := run_free S _ f hf
    have hn : ∃ m : Nat, ((size + 63) / 64).toNat = m ∧ 64 * (m : Int) < size + 64 ∧ size ≤ 64 * m ∧ 1 ≤ m := ⟨_, rfl, by omega, by omega, by omega⟩
    obtain ⟨m, hm, m1, m2, m3⟩ := hn
    rw [hm] at r1 r2
    clear hf hneg hm
    have hbl : (S.put (64 * (f : Int), size)).blocks = ins (64 * (f : Int), size) S.blocks := rfl
    have hfr : ∀ k : Nat, 64 * (f : Int) ≤ 64 * k → 64 * (k : Int) < 64 * f + size → S.free k = true := by
      intro k h1 h2
      have := r2 (k - f) (by omega)
      rwa [show f + (k - f) = k by omega] at this
    refine ⟨⟨hI.h1, hI.h4, hI.s1, hI.s4, hI.f1, hI.f16, ?_, ?_, hI.sup, ?_, ?_, ?_⟩, ?_⟩
    · simp only [St.put, zeroTo_length]; exact hI.bz
    · exact zeroTo_range _ hI.by0 _ _
    · rw [hbl]
      refine ins_sorted _ _ hI.sorted (fun x hx e => ?_)
      refine free_none S hI.toInv0 f (hfr f (by omega) (by omega)) x hx ?_
      have : x.1 = 64 * (f : Int) := e
      omega
    · rw [hbl]
      intro b hb
      rw [mem_ins] at hb
      rcases hb with rfl | hb
      · refine ⟨by show 1 ≤ size; omega, hs, by show 0 ≤ 64 * (f : Int); omega, by show 64 * (f : Int) < 64 * S.sups.length; omega, fun h => by have : size ≤ 32 := h; omega, fun _ => ?_⟩
        refine ⟨by show 64 * (f : Int) % 64 = 0; omega, by show 64 * (f : Int) + size ≤ 64 * S.sups.length; omega, fun k h1 h2 => ?_⟩
        exact ((free_spec S k).1 (hfr k h1 h2)).1
      · exact hI.ok b hb
    · rw [hbl]
      intro x hx y hy hl hlt
      rw [mem_ins] at hx hy
      rcases hx with rfl | hx
      · rcases hy with rfl | hy
        · omega
        · have h1 : 64 * (f : Int) < y.1 := hlt
          show 64 * (f : Int) + size ≤ y.1
          apply Int.not_lt.1; intro hgt
          have := free_none S hI.toInv0 (y.1 / 64).toNat (hfr _ (by omega) (by omega)) y hy
          omega
      · rcases hy with rfl | hy
        · have h1 : x.1 < 64 * (f : Int) := hlt
          show x.1 + x.2 ≤ 64 * (f : Int)
          apply Int.not_lt.1; intro hgt
          exact ((free_spec S f).1 (hfr f (by omega) (by omega))).2 x hx hl ⟨by omega, by omega⟩
        · exact hI.large x hx y hy hl hlt
    · intro k hk hz
      rw [used_put]
      have := hI.zero k hk hz
      omega

theorem inv_malloc (S : St) (hI : Inv S) (worker size : Int) : Inv (S.malloc worker size).2 := by
  unfold St.malloc
  split
  · exact hI
  · rename_i h
    split
    · exact inv_mallocLarge S hI size (by omega) (by omega)
    · exact inv_mallocSmall S hI worker size (by omega) (by omega) (by omega)

theorem inv_store (S : St) (hI : Inv S) (a v : Int) : Inv (S.store a v).2 := by
  unfold St.store
  split
  · exact hI
  · rename_i h
    split
    · refine ⟨⟨hI.h1, hI.h4, hI.s1, hI.s4, hI.f1, hI.f16, by simpa using hI.bz, ?_, hI.sup, hI.sorted, hI.ok, hI.large⟩, hI.zero⟩
      intro x hx
      rcases List.mem_or_eq_of_mem_set hx with h' | rfl
      · exact hI.by0 x h'
      · omega
    · exact hI
end Ti

namespace Ti

/-- one block less -/
def St.less (S : St) (k : Nat) : St := { S with blocks := S.blocks.take k ++ S.blocks.drop (k + 1) }

theorem less_mem {S : St} {k : Nat} {b : Int × Int} (h : b ∈ (S.less k).blocks) : b ∈ S.blocks := by
  simp only [St.less, List.mem_append] at h
  rcases h with h | h
  · exact List.mem_of_mem_take h
  · exact List.mem_of_mem_drop h
theorem less_sub (S : St) (k : Nat) : (S.less k).blocks.Sublist S.blocks := by
  have e : S.blocks.take k ++ S.blocks.drop (k + 1) = S.blocks.eraseIdx k := by rw [List.eraseIdx_eq_take_drop_succ]
  show (S.blocks.take k ++ S.blocks.drop (k + 1)).Sublist S.blocks
  rw [e]; exact List.eraseIdx_sublist _ _

theorem inv0_less (S : St) (hI : Inv0 S) (k : Nat) : Inv0 (S.less k) :=
  ⟨hI.h1, hI.h4, hI.s1, hI.s4, hI.f1, hI.f16, hI.bz, hI.by0, hI.sup, hI.sorted.sublist (less_sub S k), fun b hb => hI.ok b (less_mem hb), fun a ha b hb => hI.large a (less_mem ha) b (less_mem hb)⟩

theorem used_8 (S : St) (hI : Inv0 S) (f : Nat) (hf : (S.sup f).is = true) : (S.used f : Int) ≤ slots (S.sup f).cls := by
  rw [used_occ S hI f hf]
  have := occ_le S.blocks (64 * f) (width (S.sup f).cls) (slots (S.sup f).cls).toNat
  have := width_slots (S.sup f).cls
  omega

theorem inv0_heap0 (S : St) (hI : Inv0 S) (e : Nat) : Inv0 (S.setSup e { S.sup e with heap := 0 }) := by
  by_cases he : e < S.sups.length
  · have hsup := fun k => sup_setSup S e k { S.sup e with heap := 0 } he
    have hlen := len_setSup S e { S.sup e with heap := 0 }
    have his : ∀ k, ((S.setSup e { S.sup e with heap := 0 }).sup k).is = (S.sup k).is ∧ ((S.setSup e { S.sup e with heap := 0 }).sup k).cls = (S.sup k).cls := by
      intro k; rw [hsup]
      by_cases ek : k = e
      · subst ek; simp
      · simp [ek]
    refine ⟨hI.h1, hI.h4, hI.s1, hI.s4, by rw [hlen]; exact hI.f1, by rw [hlen]; exact hI.f16, by rw [hlen]; exact hI.bz, hI.by0, ?_, hI.sorted, ?_, hI.large⟩
    · intro k hk
      rw [hlen, (his k).2]
      rw [(his k).1] at hk
      obtain ⟨a, b, c, d1, d2⟩ := hI.sup k hk
      refine ⟨a, b, c, ?_⟩
      rw [hsup]
      by_cases ek : k = e
      · simp only [ek, if_true]; exact ⟨by omega, by have := hI.h1; show (0 : Int) ≤ S.heaps; omega⟩
      · rw [if_neg ek]; exact ⟨d1, d2⟩
    · intro b hb
      obtain ⟨o1, o2, o3, o4, o5, o6⟩ := hI.ok b hb
      refine ⟨o1, o2, o3, by rw [hlen]; exact o4, fun hs => ?_, fun hl => ?_⟩
      · rw [(his _).1, (his _).2]; exact o5 hs
      · obtain ⟨q1, q2, q3⟩ := o6 hl
        exact ⟨q1, by rw [hlen]; exact q2, fun k a b => by rw [(his k).1]; exact q3 k a b⟩
  · have e1 : S.setSup e { S.sup e with heap := 0 } = S := by
      simp only [St.setSup]
      rw [List.set_eq_of_length_le (by omega)]
    rw [e1]; exact hI

theorem inv0_give (S : St) (hI : Inv0 S) (h c : Int) : Inv0 (S.give h c) := by
  unfold St.give
  split
  · exact inv0_heap0 S hI _
  · exact hI

/-- an empty superblock of heap 0 -/
def St.gone (S : St) (k : Nat) : Prop := (S.sup k).is = true ∧ (S.sup k).heap = 0 ∧ S.used k = 0

theorem sweepTo_same (S : St) (n : Nat) : (S.sweepTo n).blocks = S.blocks ∧ (S.sweepTo n).bytes = S.bytes ∧ (S.sweepTo n).heaps = S.heaps ∧ (S.sweepTo n).slack = S.slack ∧ (S.sweepTo n).sups.length = S.sups.length := by
  induction n with
  | zero => exact ⟨rfl, rfl, rfl, rfl, rfl⟩
  | succ n ih =>
    simp only [St.sweepTo]
    split
    · simpa [St.setSup] using ih
    · exact ih
theorem used_blocks {S T : St} (h : S.blocks = T.blocks) (k : Nat) : S.used k = T.used k := by simp [St.used, h]
theorem sweepTo_sup (S : St) (n : Nat) (hn : n ≤ S.sups.length) (k : Nat) : (k < n → S.gone k → (S.sweepTo n).sup k = sup0) ∧ (¬ (k < n ∧ S.gone k) → (S.sweepTo n).sup k = S.sup k) := by
  induction n with
  | zero => exact ⟨fun h => by omega, fun _ => rfl⟩
  | succ n ih =>
    obtain ⟨i1, i2⟩ := ih (by omega)
    obtain ⟨s1, s2, s3, s4, s5⟩ := sweepTo_same S n
    have hu := used_blocks s1 n
    simp only [St.sweepTo]
    have hn' : (S.sweepTo n).sup n = S.sup n := by
      have : ∀ m, n ≤ m → (S.sweepTo n).sup m = S.sup m := by
        clear i1 i2 hu s1 s2 s3 s4 s5
        have key : ∀ j, j ≤ n → ∀ m, j ≤ m → (S.sweepTo j).sup m = S.sup m := by
          intro j
          induction j with
          | zero => intro _ m _; rfl
          | succ j ihj =>
            intro hj m hm
            simp only [St.sweepTo]
            split
            · rw [sup_setSup _ _ _ _ (by rw [(sweepTo_same S j).2.2.2.2]; omega), if_neg (by omega)]
              exact ihj (by omega) m (by omega)
            · exact ihj (by omega) m (by omega)
        exact key n (Nat.le_refl _)
      exact this n (Nat.le_refl _)
    by_cases hc : ((S.sweepTo n).sup n).is = true ∧ ((S.sweepTo n).sup n).heap = 0 ∧ (S.sweepTo n).used n = 0
    · rw [if_pos hc]
      rw [hn', hu] at hc
      rw [sup_setSup _ _ _ _ (by rw [s5]; omega)]
      by_cases ek : k = n
      · subst ek
        simp only [if_true]
        exact ⟨fun _ _ => trivial, fun h => absurd ⟨by omega, hc⟩ h⟩
      · rw [if_neg ek]
        exact ⟨fun h1 h2 => i1 (by omega) h2, fun h => i2 (fun h' => h ⟨by omega, h'.2⟩)⟩
    · rw [if_neg hc]
      rw [hn', hu] at hc
      by_cases ek : k = n
      · subst ek
        exact ⟨fun _ h2 => absurd h2 hc, fun _ => hn'⟩
      · exact ⟨fun h1 h2 => i1 (by omega) h2, fun h => i2 (fun h' => h ⟨by omega, h'.2⟩)⟩

theorem sweep_sup (S : St) (hI : Inv0 S) (k : Nat) : (S.gone k → S.sweep.sup k = sup0) ∧ (¬ S.gone k → S.sweep.sup k = S.sup k) := by
  obtain ⟨a, b⟩ := sweepTo_sup S S.sups.length (Nat.le_refl _) k
  exact ⟨fun h => a (hI.sup k h.1).1 h, fun h => b (fun h' => h h'.2)⟩

theorem used_pos (S : St) (b : Int × Int) (hb : b ∈ S.blocks) (h0 : 0 ≤ b.1) : S.used (b.1 / 64).toNat ≠ 0 := by
  rw [St.used, usedN_countP]
  intro h
  rw [List.countP_eq_zero] at h
  have := h b hb
  simp at this; omega

theorem inv_sweep (S : St) (hI : Inv0 S) : Inv S.sweep := by
  obtain ⟨s1, s2, s3, s4, s5⟩ := sweepTo_same S S.sups.length
  have hs := sweep_sup S hI
  have his : ∀ k, (S.sweep.sup k).is = true → ¬ S.gone k ∧ (S.sup k).is = true := by
    intro k hk
    by_cases hg : S.gone k
    · rw [(hs k).1 hg] at hk; cases hk
    · rw [(hs k).2 hg] at hk; exact ⟨hg, hk⟩
  have hfalse : ∀ k, (S.sup k).is = false → (S.sweep.sup k).is = false := by
    intro k hk
    rw [(hs k).2 (fun h => by rw [h.1] at hk; cases hk)]; exact hk
  have e1 : S.sweep.blocks = S.blocks := s1
  have e2 : S.sweep.bytes = S.bytes := s2
  have e3 : S.sweep.heaps = S.heaps := s3
  have e4 : S.sweep.slack = S.slack := s4
  have e5 : S.sweep.sups.length = S.sups.length := s5
  refine ⟨⟨by rw [e3]; exact hI.h1, by rw [e3]; exact hI.h4, by rw [e4]; exact hI.s1, by rw [e4]; exact hI.s4, by rw [e5]; exact hI.f1, by rw [e5]; exact hI.f16, by rw [e5, e2]; exact hI.bz, by rw [e2]; exact hI.by0, ?_, by rw [e1]; exact hI.sorted, ?_, by rw [e1]; exact hI.large⟩, ?_⟩
  · intro k hk
    obtain ⟨g, hk'⟩ := his k hk
    rw [(hs k).2 g, e5, e3]; exact hI.sup k hk'
  · rw [e1]
    intro b hb
    obtain ⟨o1, o2, o3, o4, o5, o6⟩ := hI.ok b hb
    refine ⟨o1, o2, o3, by rw [e5]; exact o4, fun h => ?_, fun h => ?_⟩
    · have hg : ¬ S.gone (b.1 / 64).toNat := fun hg => used_pos S b hb o3 hg.2.2
      rw [(hs _).2 hg]; exact o5 h
    · obtain ⟨q1, q2, q3⟩ := o6 h
      exact ⟨q1, by rw [e5]; exact q2, fun k a b => hfalse k (q3 k a b)⟩
  · intro k hk hz
    obtain ⟨g, hk'⟩ := his k hk
    rw [(hs k).2 g] at hz
    rw [used_blocks e1]
    intro h0
    exact g ⟨hk', hz, h0⟩

theorem used_less (S : St) (k : Nat) (hk : k < S.blocks.length) (f : Nat) : S.used f = (S.less k).used f + if (bk S.blocks k).1 / 64 = f then 1 else 0 := by
  simp only [St.used, usedN_countP, St.less]
  have e : S.blocks = S.blocks.take k ++ (bk S.blocks k :: S.blocks.drop (k + 1)) := by
    have : bk S.blocks k = S.blocks[k] := by simp [bk, hk]
    rw [this, ← List.drop_eq_getElem_cons hk, List.take_append_drop]
  conv => lhs; rw [e]
  rw [List.countP_append, List.countP_append, List.countP_cons]
  simp; omega

theorem freeAt_eq (S : St) (a : Int) (h : 0 ≤ atI S.blocks a) : S.freeAt a =
    if 32 < (bk S.blocks (atI S.blocks a).toNat).2 then (0, S.less (atI S.blocks a).toNat) else
      (0, ((S.less (atI S.blocks a).toNat).give (S.sup (a / 64).toNat).heap (S.sup (a / 64).toNat).cls).sweep) := by
  unfold St.freeAt
  rw [if_neg (by omega)]
  rfl

theorem inv_free (S : St) (hI : Inv S) (a : Int) : Inv (S.freeAt a).2 := by
  by_cases h : 0 ≤ atI S.blocks a
  · rw [freeAt_eq S a h]
    obtain ⟨hk, ha⟩ := atI_at S.blocks a h
    split
    · rename_i hl
      refine ⟨inv0_less S hI.toInv0 _, fun f hf hz => ?_⟩
      have h1 := hI.zero f hf hz
      have h2 := used_less S _ hk f
      rw [if_neg] at h2
      · show (S.less _).used f ≠ 0
        omega
      · intro e
        obtain ⟨o1, o2, o3, o4, o5, o6⟩ := hI.ok _ (bk_mem hk)
        obtain ⟨q1, q2, q3⟩ := o6 hl
        have := q3 f (by omega) (by omega)
        have hf' : (S.sup f).is = true := hf
        rw [this] at hf'; cases hf'
    · exact inv_sweep _ (inv0_give _ (inv0_less S hI.toInv0 _) _ _)
  · unfold St.freeAt
    rw [if_pos (by omega)]; exact hI
end Ti

namespace Ti

theorem heldTo_mine (S : St) (h c : Int) (n : Nat) (hp : 0 < S.heldTo h c n) : ∃ k, k < n ∧ S.mine h c k = true := by
  induction n with
  | zero => simp [St.heldTo] at hp
  | succ n ih =>
    simp only [St.heldTo] at hp
    split at hp
    · rename_i hm; exact ⟨n, by omega, hm⟩
    · obtain ⟨k, hk, hm⟩ := ih hp; exact ⟨k, by omega, hm⟩
theorem emptiest_of (S : St) (hI : Inv0 S) (h c : Int) (hp : 0 < S.held h c) : ∃ f : Nat, f < S.sups.length ∧ S.emptiest h c = (f : Int) ∧ S.mine h c f = true ∧ ∀ k, k < S.sups.length → S.mine h c k = true → S.used f ≤ S.used k := by
  obtain ⟨k, hk, hm⟩ := heldTo_mine S h c _ hp
  rcases emptyTo_spec S h c S.sups.length with ⟨_, _, d⟩ | ⟨f, hf, a, _, m, _, d⟩
  · have h1 := d k hk hm
    have hm' := hm
    simp [St.mine] at hm'
    have h2 := used_8 S hI k hm'.1.1
    have := width_slots (S.sup k).cls
    omega
  · exact ⟨f, hf, a, m, d⟩
theorem charged_nn (S : St) (h c : Int) (n : Nat) : 0 ≤ S.chargedTo h c n := by
  induction n with
  | zero => simp [St.chargedTo]
  | succ n ih =>
    simp only [St.chargedTo]
    have := width_slots c
    have h4 : 0 ≤ width c * (S.used n : Int) := Int.mul_nonneg (by omega) (by omega)
    split <;> omega
theorem give_no (S : St) (h c : Int) (hn : ¬ (0 < h ∧ S.tooMuch h c = true)) : S.give h c = S := by
  unfold St.give; rw [if_neg hn]
theorem give_yes (S : St) (h c : Int) (hn : 0 < h ∧ S.tooMuch h c = true) : S.give h c = S.setSup (S.emptiest h c).toNat { S.sup (S.emptiest h c).toNat with heap := 0 } := by
  unfold St.give; rw [if_pos hn]
end Ti
