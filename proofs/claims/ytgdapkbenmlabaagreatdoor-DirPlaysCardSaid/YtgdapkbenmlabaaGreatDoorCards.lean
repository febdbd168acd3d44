/-
  DERIVED. GIVEN WITH THE SEED: THE CARDS: each row of YtgdapkbenmlabaaGreatDoorRows.lean that lists a variable, with what it lists TIED to the program's text (the seventh form; the later family's looks); each row that meets fmt, with fmt's text TOLD by the authors' own Lean function (tested against real Go, not proved from fmt's source: count such statements apart). THE CARD IS WHAT COUNTS. Prove the row's statement (the work); the ties are given (YtgdapkbenmlabaaGreatDoorTie.lean); close each card by the builder's one call (the guide's Derived/Test/ToyasCard.lean, 'card_holds'). Laid BY PROGRAM, IN A SANDBOX (cutbox-door.mjs). By AI agents, Wed Nov 11 2026. No macro, syntax, notation, axiom, sorry.
-/
import Derived.Test.YtgdapkbenmlabaaGreatDoorRows
import GoSem.ClaimSeven
namespace Go.Proofs.YtgdapkbenmlabaaGreatDoor
namespace Rows

/-- THE TIED CARD OF 'garrisonlaw09.DirPlays'. -/
def dirPlaysCard : Claim7 := { stood := { row := dirPlaysRow, standIns := [], harness := (true, "a4d28011184528d02b439b39f1b64403e92686d96a19fa8d60ba7239f9f9762f"), looks := false }, kinds := [], alts := [], laidByText := true, laidKinds := [.data, .pinned], laidTests := true, laidLooks := .later }
def DirPlaysCardSaid : Prop := Claim7.holds Tryz.pinned (.plain (OpenSpec.ofChange dirPlaysSpec)) dirPlaysCard

/-- THE TIED CARD OF 'garrisonlaw10.InstPlays'. -/
def instPlaysCard : Claim7 := { stood := { row := instPlaysRow, standIns := [], harness := (true, "a4d28011184528d02b439b39f1b64403e92686d96a19fa8d60ba7239f9f9762f"), looks := false }, kinds := [], alts := [], laidByText := true, laidKinds := [.data, .pinned], laidTests := true, laidLooks := .later }
def InstPlaysCardSaid : Prop := Claim7.holds Tryz.pinned (.plain (OpenSpec.ofChange instPlaysSpec)) instPlaysCard

/-- THE TIED CARD OF 'garrisonlaw12.WalkWays'. -/
def walkWaysCard : Claim7 := { stood := { row := walkWaysRow, standIns := [], harness := (true, "a4d28011184528d02b439b39f1b64403e92686d96a19fa8d60ba7239f9f9762f"), looks := false }, kinds := [], alts := [], laidByText := true, laidKinds := [.data, .pinned], laidTests := true, laidLooks := .later }
def WalkWaysCardSaid : Prop := Claim7.holds Tryz.pinned (.plain (OpenSpec.ofChange walkWaysSpec)) walkWaysCard

/-- THE TIED CARD OF 'garrisonlaw12.WalkBelow'. -/
def walkBelowCard : Claim7 := { stood := { row := walkBelowRow, standIns := [], harness := (true, "a4d28011184528d02b439b39f1b64403e92686d96a19fa8d60ba7239f9f9762f"), looks := false }, kinds := [], alts := [], laidByText := true, laidKinds := [.data, .pinned], laidTests := true, laidLooks := .later }
def WalkBelowCardSaid : Prop := Claim7.holds Tryz.pinned (.plain (OpenSpec.ofChange walkBelowSpec)) walkBelowCard

/-- THE TIED CARD OF 'garrisonlaw12.WalkNodes'. -/
def walkNodesCard : Claim7 := { stood := { row := walkNodesRow, standIns := [], harness := (true, "a4d28011184528d02b439b39f1b64403e92686d96a19fa8d60ba7239f9f9762f"), looks := false }, kinds := [], alts := [], laidByText := true, laidKinds := [.data, .pinned], laidTests := true, laidLooks := .later }
def WalkNodesCardSaid : Prop := Claim7.holds Tryz.pinned (.plain (OpenSpec.ofChange walkNodesSpec)) walkNodesCard

/-- THE TIED CARD OF 'garrisonlaw12.WalkLoops'. -/
def walkLoopsCard : Claim7 := { stood := { row := walkLoopsRow, standIns := [], harness := (true, "a4d28011184528d02b439b39f1b64403e92686d96a19fa8d60ba7239f9f9762f"), looks := false }, kinds := [], alts := [], laidByText := true, laidKinds := [.data, .pinned], laidTests := true, laidLooks := .later }
def WalkLoopsCardSaid : Prop := Claim7.holds Tryz.pinned (.plain (OpenSpec.ofChange walkLoopsSpec)) walkLoopsCard

/-- THE TIED CARD OF 'garrisonlaw12.WalkNone'. -/
def walkNoneCard : Claim7 := { stood := { row := walkNoneRow, standIns := [], harness := (true, "a4d28011184528d02b439b39f1b64403e92686d96a19fa8d60ba7239f9f9762f"), looks := false }, kinds := [], alts := [], laidByText := true, laidKinds := [.data, .pinned], laidTests := true, laidLooks := .later }
def WalkNoneCardSaid : Prop := Claim7.holds Tryz.pinned (.plain (OpenSpec.ofChange walkNoneSpec)) walkNoneCard

/-- THE SECOND FORM's CARD OF 'garrisonlaw09.DirPlays'. -/
def dirPlaysUptoCard : Claim7 := { stood := { row := dirPlaysUptoRow, standIns := [], harness := (true, "a4d28011184528d02b439b39f1b64403e92686d96a19fa8d60ba7239f9f9762f"), looks := false }, kinds := [], alts := [], laidByText := true, laidKinds := [.data, .pinned], laidTests := true, laidLooks := .later }
def DirPlaysUptoCardSaid : Prop := Claim7.holds Tryz.pinned (.plain (OpenSpec.upto dirPlaysSpec)) dirPlaysUptoCard

/-- THE SECOND FORM's CARD OF 'garrisonlaw10.InstPlays'. -/
def instPlaysUptoCard : Claim7 := { stood := { row := instPlaysUptoRow, standIns := [], harness := (true, "a4d28011184528d02b439b39f1b64403e92686d96a19fa8d60ba7239f9f9762f"), looks := false }, kinds := [], alts := [], laidByText := true, laidKinds := [.data, .pinned], laidTests := true, laidLooks := .later }
def InstPlaysUptoCardSaid : Prop := Claim7.holds Tryz.pinned (.plain (OpenSpec.upto instPlaysSpec)) instPlaysUptoCard

/-- THE SECOND FORM's CARD OF 'garrisonlaw12.WalkWays'. -/
def walkWaysUptoCard : Claim7 := { stood := { row := walkWaysUptoRow, standIns := [], harness := (true, "a4d28011184528d02b439b39f1b64403e92686d96a19fa8d60ba7239f9f9762f"), looks := false }, kinds := [], alts := [], laidByText := true, laidKinds := [.data, .pinned], laidTests := true, laidLooks := .later }
def WalkWaysUptoCardSaid : Prop := Claim7.holds Tryz.pinned (.plain (OpenSpec.upto walkWaysSpec)) walkWaysUptoCard

/-- THE SECOND FORM's CARD OF 'garrisonlaw12.WalkBelow'. -/
def walkBelowUptoCard : Claim7 := { stood := { row := walkBelowUptoRow, standIns := [], harness := (true, "a4d28011184528d02b439b39f1b64403e92686d96a19fa8d60ba7239f9f9762f"), looks := false }, kinds := [], alts := [], laidByText := true, laidKinds := [.data, .pinned], laidTests := true, laidLooks := .later }
def WalkBelowUptoCardSaid : Prop := Claim7.holds Tryz.pinned (.plain (OpenSpec.upto walkBelowSpec)) walkBelowUptoCard

/-- THE SECOND FORM's CARD OF 'garrisonlaw12.WalkNodes'. -/
def walkNodesUptoCard : Claim7 := { stood := { row := walkNodesUptoRow, standIns := [], harness := (true, "a4d28011184528d02b439b39f1b64403e92686d96a19fa8d60ba7239f9f9762f"), looks := false }, kinds := [], alts := [], laidByText := true, laidKinds := [.data, .pinned], laidTests := true, laidLooks := .later }
def WalkNodesUptoCardSaid : Prop := Claim7.holds Tryz.pinned (.plain (OpenSpec.upto walkNodesSpec)) walkNodesUptoCard

/-- THE SECOND FORM's CARD OF 'garrisonlaw12.WalkLoops'. -/
def walkLoopsUptoCard : Claim7 := { stood := { row := walkLoopsUptoRow, standIns := [], harness := (true, "a4d28011184528d02b439b39f1b64403e92686d96a19fa8d60ba7239f9f9762f"), looks := false }, kinds := [], alts := [], laidByText := true, laidKinds := [.data, .pinned], laidTests := true, laidLooks := .later }
def WalkLoopsUptoCardSaid : Prop := Claim7.holds Tryz.pinned (.plain (OpenSpec.upto walkLoopsSpec)) walkLoopsUptoCard

/-- THE SECOND FORM's CARD OF 'garrisonlaw12.WalkNone'. -/
def walkNoneUptoCard : Claim7 := { stood := { row := walkNoneUptoRow, standIns := [], harness := (true, "a4d28011184528d02b439b39f1b64403e92686d96a19fa8d60ba7239f9f9762f"), looks := false }, kinds := [], alts := [], laidByText := true, laidKinds := [.data, .pinned], laidTests := true, laidLooks := .later }
def WalkNoneUptoCardSaid : Prop := Claim7.holds Tryz.pinned (.plain (OpenSpec.upto walkNoneSpec)) walkNoneUptoCard
end Rows
end Go.Proofs.YtgdapkbenmlabaaGreatDoor
