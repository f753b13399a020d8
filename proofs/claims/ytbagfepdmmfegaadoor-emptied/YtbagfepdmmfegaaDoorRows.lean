/-
  NARROWER THAN 'FOR EVERY INPUT', by the rows' own cells (each row's printed sentence says how): Smalls: laid · Larges: laid · Apart: laid · Lean: laid · Bounded: laid · Refused: laid · Strange: laid · All: laid · Emptied: laid · Walked: laid.
  DERIVED. THE GIVEN ROWS OF THIS SEAT. 10 by the template 'for every input the law returns true; each argument reads behind the call as it read before'; 0 by the template 'total and deterministic' (their statements: YtbagfepdmmfegaaDoorTotals.lean).
  GIVEN WITH THE SEED: the statements are not yours to turn. If you find one false, say at which input.
  Laid BY PROGRAM, IN A SANDBOX (cutbox-rows.mjs): the forced cells as the released guide's own fill.sh prints them over the translation 5b7ba1961bc01cc6… (all of the seat's roots in one cut). By AI agents, Wed Nov 11 2026. No macro, syntax, notation, axiom, sorry.
-/
import Derived.Test.YtbagfepdmmfegaaDoorChecked
import GoSem.Claim
import GoSem.ClaimJoined
import GoSem.ClaimMapViews
import Derived.JoinedTies
import Derived.KernelRfl
namespace Go.Proofs.YtbagfepdmmfegaaDoor
/- THE CELL 'sum', in the pinned program and in every row, IS THE sha256 OF THE DUMP (.gsa) THAT YtbagfepdmmfegaaDoorProg.lean LOADS. Nothing in Lean hashes anything: it is a label: what it is worth is what the hold of that sum in a sandbox is worth. -/
noncomputable def Tryd.pinned : Pinned := { name := "ytbagfepdmmfegaadoor", sum := "5b7ba1961bc01cc67e130cbf62ae2076a8a17422eab22bdf102b3f4f7b6e4d71", checked := Tryd.checked }
namespace Rows
def none {H : Type} : Left H := { results := [], args := [] }

/- WHAT THE LISTED PACKAGE-LEVEL VARIABLES READ AS WHEN THE CALL BEGINS. Each datum BY PROGRAM (the guide's laid-datum.mjs) off the statement by which the dump's own 'gosem.cut.vars' lays the variable. In a bare row this is a premise. The card (YtbagfepdmmfegaaDoorCards.lean) ties it to the program's text. -/
def laid_tithe_memory_errNoBlock {H : Type} : DataW H := .iface "*errors.errorString" (.ptr (.agg [.lit (.string [110, 111, 32, 98, 108, 111, 99, 107, 32, 116, 104, 101, 114, 101])]))

/-- 'tithelaw.Smalls': WHATEVER THE INPUT: true; the input reads as it did. -/
def smallsSpec : ChangeSpec := { name := "smalls", fn := fun _ => fun
  | [d] => { results := [.lit (.bool true)], args := [d] }
  | _ => none }
def smallsRow : OpenClaim := { program := "ytbagfepdmmfegaadoor", sum := "5b7ba1961bc01cc67e130cbf62ae2076a8a17422eab22bdf102b3f4f7b6e4d71", func := "tithe/tithelaw.Smalls", spec := "smalls", unfollowed := true, recurses := true, named := ["tithe/memory.errNoBlock"], apart := false, laid := [("tithe/memory.errNoBlock", laid_tithe_memory_errNoBlock)] }
def SmallsSaid : Prop := smallsRow.holds Tryd.pinned (OpenSpec.ofChange smallsSpec)

/-- ITS FALSE NEIGHBOUR: 'it returns false'. Refute it at one input. -/
def smallsWrong : ChangeSpec := { name := "smalls", fn := fun _ => fun
  | [d] => { results := [.lit (.bool false)], args := [d] }
  | _ => none }
def SmallsWrongFalsely : Prop := smallsRow.holds Tryd.pinned (OpenSpec.ofChange smallsWrong)

/-- 'tithelaw.Larges': WHATEVER THE INPUT: true; the input reads as it did. -/
def largesSpec : ChangeSpec := { name := "larges", fn := fun _ => fun
  | [d] => { results := [.lit (.bool true)], args := [d] }
  | _ => none }
def largesRow : OpenClaim := { program := "ytbagfepdmmfegaadoor", sum := "5b7ba1961bc01cc67e130cbf62ae2076a8a17422eab22bdf102b3f4f7b6e4d71", func := "tithe/tithelaw.Larges", spec := "larges", unfollowed := true, recurses := true, named := ["tithe/memory.errNoBlock"], apart := false, laid := [("tithe/memory.errNoBlock", laid_tithe_memory_errNoBlock)] }
def LargesSaid : Prop := largesRow.holds Tryd.pinned (OpenSpec.ofChange largesSpec)

/-- ITS FALSE NEIGHBOUR: 'it returns false'. Refute it at one input. -/
def largesWrong : ChangeSpec := { name := "larges", fn := fun _ => fun
  | [d] => { results := [.lit (.bool false)], args := [d] }
  | _ => none }
def LargesWrongFalsely : Prop := largesRow.holds Tryd.pinned (OpenSpec.ofChange largesWrong)

/-- 'tithekeep.Apart': WHATEVER THE INPUT: true; the input reads as it did. -/
def apartSpec : ChangeSpec := { name := "apart", fn := fun _ => fun
  | [d1, d2] => { results := [.lit (.bool true)], args := [d1, d2] }
  | _ => none }
def apartRow : OpenClaim := { program := "ytbagfepdmmfegaadoor", sum := "5b7ba1961bc01cc67e130cbf62ae2076a8a17422eab22bdf102b3f4f7b6e4d71", func := "tithe/tithekeep.Apart", spec := "apart", unfollowed := true, recurses := true, named := ["tithe/memory.errNoBlock"], apart := false, laid := [("tithe/memory.errNoBlock", laid_tithe_memory_errNoBlock)] }
def ApartSaid : Prop := apartRow.holds Tryd.pinned (OpenSpec.ofChange apartSpec)

/-- ITS FALSE NEIGHBOUR: 'it returns false'. Refute it at one input. -/
def apartWrong : ChangeSpec := { name := "apart", fn := fun _ => fun
  | [d1, d2] => { results := [.lit (.bool false)], args := [d1, d2] }
  | _ => none }
def ApartWrongFalsely : Prop := apartRow.holds Tryd.pinned (OpenSpec.ofChange apartWrong)

/-- 'tithekeep.Lean': WHATEVER THE INPUT: true; the input reads as it did. -/
def leanSpec : ChangeSpec := { name := "lean", fn := fun _ => fun
  | [d1, d2] => { results := [.lit (.bool true)], args := [d1, d2] }
  | _ => none }
def leanRow : OpenClaim := { program := "ytbagfepdmmfegaadoor", sum := "5b7ba1961bc01cc67e130cbf62ae2076a8a17422eab22bdf102b3f4f7b6e4d71", func := "tithe/tithekeep.Lean", spec := "lean", unfollowed := true, recurses := true, named := ["tithe/memory.errNoBlock"], apart := false, laid := [("tithe/memory.errNoBlock", laid_tithe_memory_errNoBlock)] }
def LeanSaid : Prop := leanRow.holds Tryd.pinned (OpenSpec.ofChange leanSpec)

/-- ITS FALSE NEIGHBOUR: 'it returns false'. Refute it at one input. -/
def leanWrong : ChangeSpec := { name := "lean", fn := fun _ => fun
  | [d1, d2] => { results := [.lit (.bool false)], args := [d1, d2] }
  | _ => none }
def LeanWrongFalsely : Prop := leanRow.holds Tryd.pinned (OpenSpec.ofChange leanWrong)

/-- 'tithekeep.Bounded': WHATEVER THE INPUT: true; the input reads as it did. -/
def boundedSpec : ChangeSpec := { name := "bounded", fn := fun _ => fun
  | [d1, d2] => { results := [.lit (.bool true)], args := [d1, d2] }
  | _ => none }
def boundedRow : OpenClaim := { program := "ytbagfepdmmfegaadoor", sum := "5b7ba1961bc01cc67e130cbf62ae2076a8a17422eab22bdf102b3f4f7b6e4d71", func := "tithe/tithekeep.Bounded", spec := "bounded", unfollowed := true, recurses := true, named := ["tithe/memory.errNoBlock"], apart := false, laid := [("tithe/memory.errNoBlock", laid_tithe_memory_errNoBlock)] }
def BoundedSaid : Prop := boundedRow.holds Tryd.pinned (OpenSpec.ofChange boundedSpec)

/-- ITS FALSE NEIGHBOUR: 'it returns false'. Refute it at one input. -/
def boundedWrong : ChangeSpec := { name := "bounded", fn := fun _ => fun
  | [d1, d2] => { results := [.lit (.bool false)], args := [d1, d2] }
  | _ => none }
def BoundedWrongFalsely : Prop := boundedRow.holds Tryd.pinned (OpenSpec.ofChange boundedWrong)

/-- 'tithekeep.Refused': WHATEVER THE INPUT: true; the input reads as it did. -/
def refusedSpec : ChangeSpec := { name := "refused", fn := fun _ => fun
  | [d1, d2, d3, d4] => { results := [.lit (.bool true)], args := [d1, d2, d3, d4] }
  | _ => none }
def refusedRow : OpenClaim := { program := "ytbagfepdmmfegaadoor", sum := "5b7ba1961bc01cc67e130cbf62ae2076a8a17422eab22bdf102b3f4f7b6e4d71", func := "tithe/tithekeep.Refused", spec := "refused", unfollowed := true, recurses := true, named := ["tithe/memory.errNoBlock"], apart := false, laid := [("tithe/memory.errNoBlock", laid_tithe_memory_errNoBlock)] }
def RefusedSaid : Prop := refusedRow.holds Tryd.pinned (OpenSpec.ofChange refusedSpec)

/-- ITS FALSE NEIGHBOUR: 'it returns false'. Refute it at one input. -/
def refusedWrong : ChangeSpec := { name := "refused", fn := fun _ => fun
  | [d1, d2, d3, d4] => { results := [.lit (.bool false)], args := [d1, d2, d3, d4] }
  | _ => none }
def RefusedWrongFalsely : Prop := refusedRow.holds Tryd.pinned (OpenSpec.ofChange refusedWrong)

/-- 'tithekeep.Strange': WHATEVER THE INPUT: true; the input reads as it did. -/
def strangeSpec : ChangeSpec := { name := "strange", fn := fun _ => fun
  | [d1, d2, d3, d4] => { results := [.lit (.bool true)], args := [d1, d2, d3, d4] }
  | _ => none }
def strangeRow : OpenClaim := { program := "ytbagfepdmmfegaadoor", sum := "5b7ba1961bc01cc67e130cbf62ae2076a8a17422eab22bdf102b3f4f7b6e4d71", func := "tithe/tithekeep.Strange", spec := "strange", unfollowed := true, recurses := true, named := ["tithe/memory.errNoBlock"], apart := false, laid := [("tithe/memory.errNoBlock", laid_tithe_memory_errNoBlock)] }
def StrangeSaid : Prop := strangeRow.holds Tryd.pinned (OpenSpec.ofChange strangeSpec)

/-- ITS FALSE NEIGHBOUR: 'it returns false'. Refute it at one input. -/
def strangeWrong : ChangeSpec := { name := "strange", fn := fun _ => fun
  | [d1, d2, d3, d4] => { results := [.lit (.bool false)], args := [d1, d2, d3, d4] }
  | _ => none }
def StrangeWrongFalsely : Prop := strangeRow.holds Tryd.pinned (OpenSpec.ofChange strangeWrong)

/-- 'tithelaw.All': WHATEVER THE INPUT: true; the input reads as it did. -/
def allSpec : ChangeSpec := { name := "all", fn := fun _ => fun
  | [d] => { results := [.lit (.bool true)], args := [d] }
  | _ => none }
def allRow : OpenClaim := { program := "ytbagfepdmmfegaadoor", sum := "5b7ba1961bc01cc67e130cbf62ae2076a8a17422eab22bdf102b3f4f7b6e4d71", func := "tithe/tithelaw.All", spec := "all", unfollowed := true, recurses := true, named := ["tithe/memory.errNoBlock"], apart := false, laid := [("tithe/memory.errNoBlock", laid_tithe_memory_errNoBlock)] }
def AllSaid : Prop := allRow.holds Tryd.pinned (OpenSpec.ofChange allSpec)

/-- ITS FALSE NEIGHBOUR: 'it returns false'. Refute it at one input. -/
def allWrong : ChangeSpec := { name := "all", fn := fun _ => fun
  | [d] => { results := [.lit (.bool false)], args := [d] }
  | _ => none }
def AllWrongFalsely : Prop := allRow.holds Tryd.pinned (OpenSpec.ofChange allWrong)

/-- 'tithekeep.Emptied': WHATEVER THE INPUT: true; the input reads as it did. -/
def emptiedSpec : ChangeSpec := { name := "emptied", fn := fun _ => fun
  | [d1, d2, d3] => { results := [.lit (.bool true)], args := [d1, d2, d3] }
  | _ => none }
def emptiedRow : OpenClaim := { program := "ytbagfepdmmfegaadoor", sum := "5b7ba1961bc01cc67e130cbf62ae2076a8a17422eab22bdf102b3f4f7b6e4d71", func := "tithe/tithekeep.Emptied", spec := "emptied", unfollowed := true, recurses := true, named := ["tithe/memory.errNoBlock"], apart := false, laid := [("tithe/memory.errNoBlock", laid_tithe_memory_errNoBlock)] }
def EmptiedSaid : Prop := emptiedRow.holds Tryd.pinned (OpenSpec.ofChange emptiedSpec)

/-- ITS FALSE NEIGHBOUR: 'it returns false'. Refute it at one input. -/
def emptiedWrong : ChangeSpec := { name := "emptied", fn := fun _ => fun
  | [d1, d2, d3] => { results := [.lit (.bool false)], args := [d1, d2, d3] }
  | _ => none }
def EmptiedWrongFalsely : Prop := emptiedRow.holds Tryd.pinned (OpenSpec.ofChange emptiedWrong)

/-- 'tithekeep.Walked': WHATEVER THE INPUT: true; the input reads as it did. -/
def walkedSpec : ChangeSpec := { name := "walked", fn := fun _ => fun
  | [d1, d2, d3] => { results := [.lit (.bool true)], args := [d1, d2, d3] }
  | _ => none }
def walkedRow : OpenClaim := { program := "ytbagfepdmmfegaadoor", sum := "5b7ba1961bc01cc67e130cbf62ae2076a8a17422eab22bdf102b3f4f7b6e4d71", func := "tithe/tithekeep.Walked", spec := "walked", unfollowed := true, recurses := true, named := ["tithe/memory.errNoBlock"], apart := false, laid := [("tithe/memory.errNoBlock", laid_tithe_memory_errNoBlock)] }
def WalkedSaid : Prop := walkedRow.holds Tryd.pinned (OpenSpec.ofChange walkedSpec)

/-- ITS FALSE NEIGHBOUR: 'it returns false'. Refute it at one input. -/
def walkedWrong : ChangeSpec := { name := "walked", fn := fun _ => fun
  | [d1, d2, d3] => { results := [.lit (.bool false)], args := [d1, d2, d3] }
  | _ => none }
def WalkedWrongFalsely : Prop := walkedRow.holds Tryd.pinned (OpenSpec.ofChange walkedWrong)

/- THE SECOND FORM. 'bulk': how many values and letters a reading holds, each counted each time it is reached (what is shared counts as often as it is met; a slice's spare places count too). A statement '..UptoSaid' is the law's where the arguments, and the package variables that the reading takes, are together of bulk at most 1048576: NARROWER than '..Said'. Prove '..Said' where nothing that the law and all that it calls make is longer than what came in: it says more and counts as full. Else prove '..UptoSaid'. A law counts once. -/
mutual
def uptoBulk {H : Type} : DataW H → Nat
  | .lit (.string bytes) => bytes.length + 1
  | .lit _ => 1
  | .nil => 1
  | .ptr d => uptoBulk d + 1
  | .slice elems spare => uptoBulkAll elems + uptoBulkAll spare + 1
  | .agg parts => uptoBulkAll parts + 1
  | .iface _ d => uptoBulk d + 1
  | .map entries => uptoBulkEntries entries + 1
  | .held _ => 1
def uptoBulkAll {H : Type} : List (DataW H) → Nat
  | [] => 0
  | d :: r => uptoBulk d + uptoBulkAll r
def uptoBulkEntries {H : Type} : List (Lit × DataW H) → Nat
  | [] => 0
  | x :: r => uptoBulkEntry x + uptoBulkEntries r
def uptoBulkEntry {H : Type} : Lit × DataW H → Nat
  | (.string bytes, d) => bytes.length + uptoBulk d + 1
  | (_, d) => uptoBulk d + 1
 end
def uptoSmall : (H : Type) → List (DataW H) → Bool := fun _ ds => decide (uptoBulkAll ds ≤ 1048576)
def OpenSpec.upto (s : _root_.Go.ChangeSpec) : _root_.Go.OpenSpec := { _root_.Go.OpenSpec.ofChange s with cond := some uptoSmall }

/-- 'tithelaw.Smalls', WHERE WHAT IT READS IS OF BULK AT MOST 1048576: true; the input reads as it did. -/
def smallsUptoRow : OpenClaim := { program := "ytbagfepdmmfegaadoor", sum := "5b7ba1961bc01cc67e130cbf62ae2076a8a17422eab22bdf102b3f4f7b6e4d71", func := "tithe/tithelaw.Smalls", spec := "smalls", unfollowed := true, recurses := true, named := ["tithe/memory.errNoBlock"], apart := false, laid := [("tithe/memory.errNoBlock", laid_tithe_memory_errNoBlock)], narrowed := true }
def SmallsUptoSaid : Prop := smallsUptoRow.holds Tryd.pinned (OpenSpec.upto smallsSpec)

/-- 'tithelaw.Larges', WHERE WHAT IT READS IS OF BULK AT MOST 1048576: true; the input reads as it did. -/
def largesUptoRow : OpenClaim := { program := "ytbagfepdmmfegaadoor", sum := "5b7ba1961bc01cc67e130cbf62ae2076a8a17422eab22bdf102b3f4f7b6e4d71", func := "tithe/tithelaw.Larges", spec := "larges", unfollowed := true, recurses := true, named := ["tithe/memory.errNoBlock"], apart := false, laid := [("tithe/memory.errNoBlock", laid_tithe_memory_errNoBlock)], narrowed := true }
def LargesUptoSaid : Prop := largesUptoRow.holds Tryd.pinned (OpenSpec.upto largesSpec)

/-- 'tithekeep.Apart', WHERE WHAT IT READS IS OF BULK AT MOST 1048576: true; the input reads as it did. -/
def apartUptoRow : OpenClaim := { program := "ytbagfepdmmfegaadoor", sum := "5b7ba1961bc01cc67e130cbf62ae2076a8a17422eab22bdf102b3f4f7b6e4d71", func := "tithe/tithekeep.Apart", spec := "apart", unfollowed := true, recurses := true, named := ["tithe/memory.errNoBlock"], apart := false, laid := [("tithe/memory.errNoBlock", laid_tithe_memory_errNoBlock)], narrowed := true }
def ApartUptoSaid : Prop := apartUptoRow.holds Tryd.pinned (OpenSpec.upto apartSpec)

/-- 'tithekeep.Lean', WHERE WHAT IT READS IS OF BULK AT MOST 1048576: true; the input reads as it did. -/
def leanUptoRow : OpenClaim := { program := "ytbagfepdmmfegaadoor", sum := "5b7ba1961bc01cc67e130cbf62ae2076a8a17422eab22bdf102b3f4f7b6e4d71", func := "tithe/tithekeep.Lean", spec := "lean", unfollowed := true, recurses := true, named := ["tithe/memory.errNoBlock"], apart := false, laid := [("tithe/memory.errNoBlock", laid_tithe_memory_errNoBlock)], narrowed := true }
def LeanUptoSaid : Prop := leanUptoRow.holds Tryd.pinned (OpenSpec.upto leanSpec)

/-- 'tithekeep.Bounded', WHERE WHAT IT READS IS OF BULK AT MOST 1048576: true; the input reads as it did. -/
def boundedUptoRow : OpenClaim := { program := "ytbagfepdmmfegaadoor", sum := "5b7ba1961bc01cc67e130cbf62ae2076a8a17422eab22bdf102b3f4f7b6e4d71", func := "tithe/tithekeep.Bounded", spec := "bounded", unfollowed := true, recurses := true, named := ["tithe/memory.errNoBlock"], apart := false, laid := [("tithe/memory.errNoBlock", laid_tithe_memory_errNoBlock)], narrowed := true }
def BoundedUptoSaid : Prop := boundedUptoRow.holds Tryd.pinned (OpenSpec.upto boundedSpec)

/-- 'tithekeep.Refused', WHERE WHAT IT READS IS OF BULK AT MOST 1048576: true; the input reads as it did. -/
def refusedUptoRow : OpenClaim := { program := "ytbagfepdmmfegaadoor", sum := "5b7ba1961bc01cc67e130cbf62ae2076a8a17422eab22bdf102b3f4f7b6e4d71", func := "tithe/tithekeep.Refused", spec := "refused", unfollowed := true, recurses := true, named := ["tithe/memory.errNoBlock"], apart := false, laid := [("tithe/memory.errNoBlock", laid_tithe_memory_errNoBlock)], narrowed := true }
def RefusedUptoSaid : Prop := refusedUptoRow.holds Tryd.pinned (OpenSpec.upto refusedSpec)

/-- 'tithekeep.Strange', WHERE WHAT IT READS IS OF BULK AT MOST 1048576: true; the input reads as it did. -/
def strangeUptoRow : OpenClaim := { program := "ytbagfepdmmfegaadoor", sum := "5b7ba1961bc01cc67e130cbf62ae2076a8a17422eab22bdf102b3f4f7b6e4d71", func := "tithe/tithekeep.Strange", spec := "strange", unfollowed := true, recurses := true, named := ["tithe/memory.errNoBlock"], apart := false, laid := [("tithe/memory.errNoBlock", laid_tithe_memory_errNoBlock)], narrowed := true }
def StrangeUptoSaid : Prop := strangeUptoRow.holds Tryd.pinned (OpenSpec.upto strangeSpec)

/-- 'tithelaw.All', WHERE WHAT IT READS IS OF BULK AT MOST 1048576: true; the input reads as it did. -/
def allUptoRow : OpenClaim := { program := "ytbagfepdmmfegaadoor", sum := "5b7ba1961bc01cc67e130cbf62ae2076a8a17422eab22bdf102b3f4f7b6e4d71", func := "tithe/tithelaw.All", spec := "all", unfollowed := true, recurses := true, named := ["tithe/memory.errNoBlock"], apart := false, laid := [("tithe/memory.errNoBlock", laid_tithe_memory_errNoBlock)], narrowed := true }
def AllUptoSaid : Prop := allUptoRow.holds Tryd.pinned (OpenSpec.upto allSpec)

/-- 'tithekeep.Emptied', WHERE WHAT IT READS IS OF BULK AT MOST 1048576: true; the input reads as it did. -/
def emptiedUptoRow : OpenClaim := { program := "ytbagfepdmmfegaadoor", sum := "5b7ba1961bc01cc67e130cbf62ae2076a8a17422eab22bdf102b3f4f7b6e4d71", func := "tithe/tithekeep.Emptied", spec := "emptied", unfollowed := true, recurses := true, named := ["tithe/memory.errNoBlock"], apart := false, laid := [("tithe/memory.errNoBlock", laid_tithe_memory_errNoBlock)], narrowed := true }
def EmptiedUptoSaid : Prop := emptiedUptoRow.holds Tryd.pinned (OpenSpec.upto emptiedSpec)

/-- 'tithekeep.Walked', WHERE WHAT IT READS IS OF BULK AT MOST 1048576: true; the input reads as it did. -/
def walkedUptoRow : OpenClaim := { program := "ytbagfepdmmfegaadoor", sum := "5b7ba1961bc01cc67e130cbf62ae2076a8a17422eab22bdf102b3f4f7b6e4d71", func := "tithe/tithekeep.Walked", spec := "walked", unfollowed := true, recurses := true, named := ["tithe/memory.errNoBlock"], apart := false, laid := [("tithe/memory.errNoBlock", laid_tithe_memory_errNoBlock)], narrowed := true }
def WalkedUptoSaid : Prop := walkedUptoRow.holds Tryd.pinned (OpenSpec.upto walkedSpec)

end Rows
end Go.Proofs.YtbagfepdmmfegaaDoor
