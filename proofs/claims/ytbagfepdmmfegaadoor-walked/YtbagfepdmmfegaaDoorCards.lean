/-
  DERIVED. GIVEN WITH THE SEED: THE CARDS: each row of YtbagfepdmmfegaaDoorRows.lean that lists a variable, with what it lists TIED to the program's text (the seventh form; the later family's looks); each row that meets fmt, with fmt's text TOLD by the authors' own Lean function (tested against real Go, not proved from fmt's source: count such statements apart). THE CARD IS WHAT COUNTS. Prove the row's statement (the work); the ties are given (YtbagfepdmmfegaaDoorTie.lean); close each card by the builder's one call (the guide's Derived/Test/ToyasCard.lean, 'card_holds'). Laid BY PROGRAM, IN A SANDBOX (cutbox-door.mjs). By AI agents, Wed Nov 11 2026. No macro, syntax, notation, axiom, sorry.
-/
import Derived.Test.YtbagfepdmmfegaaDoorRows
import GoSem.ClaimSeven
namespace Go.Proofs.YtbagfepdmmfegaaDoor
namespace Rows

/-- THE TIED CARD OF 'tithelaw.Smalls'. -/
def smallsCard : Claim7 := { stood := { row := smallsRow, standIns := [], harness := (true, "7c7279fa3db6478ab6b5472342f4d92c3d0527c6d786e2203ed41eaa48194c13"), looks := false }, kinds := [], alts := [], laidByText := true, laidKinds := [.sentinel], laidTests := true, laidLooks := .later }
def SmallsCardSaid : Prop := Claim7.holds Tryd.pinned (.plain (OpenSpec.ofChange smallsSpec)) smallsCard

/-- THE TIED CARD OF 'tithelaw.Larges'. -/
def largesCard : Claim7 := { stood := { row := largesRow, standIns := [], harness := (true, "7c7279fa3db6478ab6b5472342f4d92c3d0527c6d786e2203ed41eaa48194c13"), looks := false }, kinds := [], alts := [], laidByText := true, laidKinds := [.sentinel], laidTests := true, laidLooks := .later }
def LargesCardSaid : Prop := Claim7.holds Tryd.pinned (.plain (OpenSpec.ofChange largesSpec)) largesCard

/-- THE TIED CARD OF 'tithekeep.Apart'. -/
def apartCard : Claim7 := { stood := { row := apartRow, standIns := [], harness := (true, "7c7279fa3db6478ab6b5472342f4d92c3d0527c6d786e2203ed41eaa48194c13"), looks := false }, kinds := [], alts := [], laidByText := true, laidKinds := [.sentinel], laidTests := true, laidLooks := .later }
def ApartCardSaid : Prop := Claim7.holds Tryd.pinned (.plain (OpenSpec.ofChange apartSpec)) apartCard

/-- THE TIED CARD OF 'tithekeep.Lean'. -/
def leanCard : Claim7 := { stood := { row := leanRow, standIns := [], harness := (true, "7c7279fa3db6478ab6b5472342f4d92c3d0527c6d786e2203ed41eaa48194c13"), looks := false }, kinds := [], alts := [], laidByText := true, laidKinds := [.sentinel], laidTests := true, laidLooks := .later }
def LeanCardSaid : Prop := Claim7.holds Tryd.pinned (.plain (OpenSpec.ofChange leanSpec)) leanCard

/-- THE TIED CARD OF 'tithekeep.Bounded'. -/
def boundedCard : Claim7 := { stood := { row := boundedRow, standIns := [], harness := (true, "7c7279fa3db6478ab6b5472342f4d92c3d0527c6d786e2203ed41eaa48194c13"), looks := false }, kinds := [], alts := [], laidByText := true, laidKinds := [.sentinel], laidTests := true, laidLooks := .later }
def BoundedCardSaid : Prop := Claim7.holds Tryd.pinned (.plain (OpenSpec.ofChange boundedSpec)) boundedCard

/-- THE TIED CARD OF 'tithekeep.Refused'. -/
def refusedCard : Claim7 := { stood := { row := refusedRow, standIns := [], harness := (true, "7c7279fa3db6478ab6b5472342f4d92c3d0527c6d786e2203ed41eaa48194c13"), looks := false }, kinds := [], alts := [], laidByText := true, laidKinds := [.sentinel], laidTests := true, laidLooks := .later }
def RefusedCardSaid : Prop := Claim7.holds Tryd.pinned (.plain (OpenSpec.ofChange refusedSpec)) refusedCard

/-- THE TIED CARD OF 'tithekeep.Strange'. -/
def strangeCard : Claim7 := { stood := { row := strangeRow, standIns := [], harness := (true, "7c7279fa3db6478ab6b5472342f4d92c3d0527c6d786e2203ed41eaa48194c13"), looks := false }, kinds := [], alts := [], laidByText := true, laidKinds := [.sentinel], laidTests := true, laidLooks := .later }
def StrangeCardSaid : Prop := Claim7.holds Tryd.pinned (.plain (OpenSpec.ofChange strangeSpec)) strangeCard

/-- THE TIED CARD OF 'tithelaw.All'. -/
def allCard : Claim7 := { stood := { row := allRow, standIns := [], harness := (true, "7c7279fa3db6478ab6b5472342f4d92c3d0527c6d786e2203ed41eaa48194c13"), looks := false }, kinds := [], alts := [], laidByText := true, laidKinds := [.sentinel], laidTests := true, laidLooks := .later }
def AllCardSaid : Prop := Claim7.holds Tryd.pinned (.plain (OpenSpec.ofChange allSpec)) allCard

/-- THE TIED CARD OF 'tithekeep.Emptied'. -/
def emptiedCard : Claim7 := { stood := { row := emptiedRow, standIns := [], harness := (true, "7c7279fa3db6478ab6b5472342f4d92c3d0527c6d786e2203ed41eaa48194c13"), looks := false }, kinds := [], alts := [], laidByText := true, laidKinds := [.sentinel], laidTests := true, laidLooks := .later }
def EmptiedCardSaid : Prop := Claim7.holds Tryd.pinned (.plain (OpenSpec.ofChange emptiedSpec)) emptiedCard

/-- THE TIED CARD OF 'tithekeep.Walked'. -/
def walkedCard : Claim7 := { stood := { row := walkedRow, standIns := [], harness := (true, "7c7279fa3db6478ab6b5472342f4d92c3d0527c6d786e2203ed41eaa48194c13"), looks := false }, kinds := [], alts := [], laidByText := true, laidKinds := [.sentinel], laidTests := true, laidLooks := .later }
def WalkedCardSaid : Prop := Claim7.holds Tryd.pinned (.plain (OpenSpec.ofChange walkedSpec)) walkedCard

/-- THE SECOND FORM's CARD OF 'tithelaw.Smalls'. -/
def smallsUptoCard : Claim7 := { stood := { row := smallsUptoRow, standIns := [], harness := (true, "7c7279fa3db6478ab6b5472342f4d92c3d0527c6d786e2203ed41eaa48194c13"), looks := false }, kinds := [], alts := [], laidByText := true, laidKinds := [.sentinel], laidTests := true, laidLooks := .later }
def SmallsUptoCardSaid : Prop := Claim7.holds Tryd.pinned (.plain (OpenSpec.upto smallsSpec)) smallsUptoCard

/-- THE SECOND FORM's CARD OF 'tithelaw.Larges'. -/
def largesUptoCard : Claim7 := { stood := { row := largesUptoRow, standIns := [], harness := (true, "7c7279fa3db6478ab6b5472342f4d92c3d0527c6d786e2203ed41eaa48194c13"), looks := false }, kinds := [], alts := [], laidByText := true, laidKinds := [.sentinel], laidTests := true, laidLooks := .later }
def LargesUptoCardSaid : Prop := Claim7.holds Tryd.pinned (.plain (OpenSpec.upto largesSpec)) largesUptoCard

/-- THE SECOND FORM's CARD OF 'tithekeep.Apart'. -/
def apartUptoCard : Claim7 := { stood := { row := apartUptoRow, standIns := [], harness := (true, "7c7279fa3db6478ab6b5472342f4d92c3d0527c6d786e2203ed41eaa48194c13"), looks := false }, kinds := [], alts := [], laidByText := true, laidKinds := [.sentinel], laidTests := true, laidLooks := .later }
def ApartUptoCardSaid : Prop := Claim7.holds Tryd.pinned (.plain (OpenSpec.upto apartSpec)) apartUptoCard

/-- THE SECOND FORM's CARD OF 'tithekeep.Lean'. -/
def leanUptoCard : Claim7 := { stood := { row := leanUptoRow, standIns := [], harness := (true, "7c7279fa3db6478ab6b5472342f4d92c3d0527c6d786e2203ed41eaa48194c13"), looks := false }, kinds := [], alts := [], laidByText := true, laidKinds := [.sentinel], laidTests := true, laidLooks := .later }
def LeanUptoCardSaid : Prop := Claim7.holds Tryd.pinned (.plain (OpenSpec.upto leanSpec)) leanUptoCard

/-- THE SECOND FORM's CARD OF 'tithekeep.Bounded'. -/
def boundedUptoCard : Claim7 := { stood := { row := boundedUptoRow, standIns := [], harness := (true, "7c7279fa3db6478ab6b5472342f4d92c3d0527c6d786e2203ed41eaa48194c13"), looks := false }, kinds := [], alts := [], laidByText := true, laidKinds := [.sentinel], laidTests := true, laidLooks := .later }
def BoundedUptoCardSaid : Prop := Claim7.holds Tryd.pinned (.plain (OpenSpec.upto boundedSpec)) boundedUptoCard

/-- THE SECOND FORM's CARD OF 'tithekeep.Refused'. -/
def refusedUptoCard : Claim7 := { stood := { row := refusedUptoRow, standIns := [], harness := (true, "7c7279fa3db6478ab6b5472342f4d92c3d0527c6d786e2203ed41eaa48194c13"), looks := false }, kinds := [], alts := [], laidByText := true, laidKinds := [.sentinel], laidTests := true, laidLooks := .later }
def RefusedUptoCardSaid : Prop := Claim7.holds Tryd.pinned (.plain (OpenSpec.upto refusedSpec)) refusedUptoCard

/-- THE SECOND FORM's CARD OF 'tithekeep.Strange'. -/
def strangeUptoCard : Claim7 := { stood := { row := strangeUptoRow, standIns := [], harness := (true, "7c7279fa3db6478ab6b5472342f4d92c3d0527c6d786e2203ed41eaa48194c13"), looks := false }, kinds := [], alts := [], laidByText := true, laidKinds := [.sentinel], laidTests := true, laidLooks := .later }
def StrangeUptoCardSaid : Prop := Claim7.holds Tryd.pinned (.plain (OpenSpec.upto strangeSpec)) strangeUptoCard

/-- THE SECOND FORM's CARD OF 'tithelaw.All'. -/
def allUptoCard : Claim7 := { stood := { row := allUptoRow, standIns := [], harness := (true, "7c7279fa3db6478ab6b5472342f4d92c3d0527c6d786e2203ed41eaa48194c13"), looks := false }, kinds := [], alts := [], laidByText := true, laidKinds := [.sentinel], laidTests := true, laidLooks := .later }
def AllUptoCardSaid : Prop := Claim7.holds Tryd.pinned (.plain (OpenSpec.upto allSpec)) allUptoCard

/-- THE SECOND FORM's CARD OF 'tithekeep.Emptied'. -/
def emptiedUptoCard : Claim7 := { stood := { row := emptiedUptoRow, standIns := [], harness := (true, "7c7279fa3db6478ab6b5472342f4d92c3d0527c6d786e2203ed41eaa48194c13"), looks := false }, kinds := [], alts := [], laidByText := true, laidKinds := [.sentinel], laidTests := true, laidLooks := .later }
def EmptiedUptoCardSaid : Prop := Claim7.holds Tryd.pinned (.plain (OpenSpec.upto emptiedSpec)) emptiedUptoCard

/-- THE SECOND FORM's CARD OF 'tithekeep.Walked'. -/
def walkedUptoCard : Claim7 := { stood := { row := walkedUptoRow, standIns := [], harness := (true, "7c7279fa3db6478ab6b5472342f4d92c3d0527c6d786e2203ed41eaa48194c13"), looks := false }, kinds := [], alts := [], laidByText := true, laidKinds := [.sentinel], laidTests := true, laidLooks := .later }
def WalkedUptoCardSaid : Prop := Claim7.holds Tryd.pinned (.plain (OpenSpec.upto walkedSpec)) walkedUptoCard
end Rows
end Go.Proofs.YtbagfepdmmfegaaDoor
