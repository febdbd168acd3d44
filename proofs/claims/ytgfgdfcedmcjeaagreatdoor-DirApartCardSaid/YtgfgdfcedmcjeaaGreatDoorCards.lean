/-
  DERIVED. GIVEN WITH THE SEED: THE CARDS: each row of YtgfgdfcedmcjeaaGreatDoorRows.lean that lists a variable, with what it lists TIED to the program's text (the seventh form; the later family's looks); each row that meets fmt, with fmt's text TOLD by the authors' own Lean function (tested against real Go, not proved from fmt's source: count such statements apart). THE CARD IS WHAT COUNTS. Prove the row's statement (the work); the ties are given (YtgfgdfcedmcjeaaGreatDoorTie.lean); close each card by the builder's one call (the guide's Derived/Test/ToyasCard.lean, 'card_holds'). Laid BY PROGRAM, IN A SANDBOX (cutbox-door.mjs). By AI agents, Wed Nov 11 2026. No macro, syntax, notation, axiom, sorry.
-/
import Derived.Test.YtgfgdfcedmcjeaaGreatDoorRows
import GoSem.ClaimSeven
namespace Go.Proofs.YtgfgdfcedmcjeaaGreatDoor
namespace Rows

/-- THE TIED CARD OF 'garrisonlaw09.DirPlays'. -/
def dirPlaysCard : Claim7 := { stood := { row := dirPlaysRow, standIns := [], harness := (true, "4edcdf3e248c28b9a9ba8ed139472d8af3eddbaf75f83c8687a2b33d40f30475"), looks := false }, kinds := [], alts := [], laidByText := true, laidKinds := [.data, .pinned], laidTests := true, laidLooks := .later }
def DirPlaysCardSaid : Prop := Claim7.holds Tryz.pinned (.plain (OpenSpec.ofChange dirPlaysSpec)) dirPlaysCard

/-- THE TIED CARD OF 'garrisonlaw09.DirMany'. -/
def dirManyCard : Claim7 := { stood := { row := dirManyRow, standIns := [], harness := (true, "4edcdf3e248c28b9a9ba8ed139472d8af3eddbaf75f83c8687a2b33d40f30475"), looks := false }, kinds := [], alts := [], laidByText := true, laidKinds := [.data, .pinned], laidTests := true, laidLooks := .later }
def DirManyCardSaid : Prop := Claim7.holds Tryz.pinned (.plain (OpenSpec.ofChange dirManySpec)) dirManyCard

/-- THE TIED CARD OF 'garrisonlaw09.DirNone'. -/
def dirNoneCard : Claim7 := { stood := { row := dirNoneRow, standIns := [], harness := (true, "4edcdf3e248c28b9a9ba8ed139472d8af3eddbaf75f83c8687a2b33d40f30475"), looks := false }, kinds := [], alts := [], laidByText := true, laidKinds := [.data, .pinned], laidTests := true, laidLooks := .later }
def DirNoneCardSaid : Prop := Claim7.holds Tryz.pinned (.plain (OpenSpec.ofChange dirNoneSpec)) dirNoneCard

/-- THE TIED CARD OF 'garrisonlaw09.DirApart'. -/
def dirApartCard : Claim7 := { stood := { row := dirApartRow, standIns := [], harness := (true, "4edcdf3e248c28b9a9ba8ed139472d8af3eddbaf75f83c8687a2b33d40f30475"), looks := false }, kinds := [], alts := [], laidByText := true, laidKinds := [.data, .pinned], laidTests := true, laidLooks := .later }
def DirApartCardSaid : Prop := Claim7.holds Tryz.pinned (.plain (OpenSpec.ofChange dirApartSpec)) dirApartCard

/-- THE SECOND FORM's CARD OF 'garrisonlaw09.DirPlays'. -/
def dirPlaysUptoCard : Claim7 := { stood := { row := dirPlaysUptoRow, standIns := [], harness := (true, "4edcdf3e248c28b9a9ba8ed139472d8af3eddbaf75f83c8687a2b33d40f30475"), looks := false }, kinds := [], alts := [], laidByText := true, laidKinds := [.data, .pinned], laidTests := true, laidLooks := .later }
def DirPlaysUptoCardSaid : Prop := Claim7.holds Tryz.pinned (.plain (OpenSpec.upto dirPlaysSpec)) dirPlaysUptoCard

/-- THE SECOND FORM's CARD OF 'garrisonlaw09.DirMany'. -/
def dirManyUptoCard : Claim7 := { stood := { row := dirManyUptoRow, standIns := [], harness := (true, "4edcdf3e248c28b9a9ba8ed139472d8af3eddbaf75f83c8687a2b33d40f30475"), looks := false }, kinds := [], alts := [], laidByText := true, laidKinds := [.data, .pinned], laidTests := true, laidLooks := .later }
def DirManyUptoCardSaid : Prop := Claim7.holds Tryz.pinned (.plain (OpenSpec.upto dirManySpec)) dirManyUptoCard

/-- THE SECOND FORM's CARD OF 'garrisonlaw09.DirNone'. -/
def dirNoneUptoCard : Claim7 := { stood := { row := dirNoneUptoRow, standIns := [], harness := (true, "4edcdf3e248c28b9a9ba8ed139472d8af3eddbaf75f83c8687a2b33d40f30475"), looks := false }, kinds := [], alts := [], laidByText := true, laidKinds := [.data, .pinned], laidTests := true, laidLooks := .later }
def DirNoneUptoCardSaid : Prop := Claim7.holds Tryz.pinned (.plain (OpenSpec.upto dirNoneSpec)) dirNoneUptoCard

/-- THE SECOND FORM's CARD OF 'garrisonlaw09.DirApart'. -/
def dirApartUptoCard : Claim7 := { stood := { row := dirApartUptoRow, standIns := [], harness := (true, "4edcdf3e248c28b9a9ba8ed139472d8af3eddbaf75f83c8687a2b33d40f30475"), looks := false }, kinds := [], alts := [], laidByText := true, laidKinds := [.data, .pinned], laidTests := true, laidLooks := .later }
def DirApartUptoCardSaid : Prop := Claim7.holds Tryz.pinned (.plain (OpenSpec.upto dirApartSpec)) dirApartUptoCard
end Rows
end Go.Proofs.YtgfgdfcedmcjeaaGreatDoor
