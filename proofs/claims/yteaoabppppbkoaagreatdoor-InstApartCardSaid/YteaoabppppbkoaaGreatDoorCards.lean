/-
  DERIVED. GIVEN WITH THE SEED: THE CARDS: each row of YteaoabppppbkoaaGreatDoorRows.lean that lists a variable, with what it lists TIED to the program's text (the seventh form; the later family's looks); each row that meets fmt, with fmt's text TOLD by the authors' own Lean function (tested against real Go, not proved from fmt's source: count such statements apart). THE CARD IS WHAT COUNTS. Prove the row's statement (the work); the ties are given (YteaoabppppbkoaaGreatDoorTie.lean); close each card by the builder's one call (the guide's Derived/Test/ToyasCard.lean, 'card_holds'). Laid BY PROGRAM, IN A SANDBOX (cutbox-door.mjs). By AI agents, Wed Nov 11 2026. No macro, syntax, notation, axiom, sorry.
-/
import Derived.Test.YteaoabppppbkoaaGreatDoorRows
import GoSem.ClaimSeven
namespace Go.Proofs.YteaoabppppbkoaaGreatDoor
namespace Rows

/-- THE TIED CARD OF 'garrisonlaw09.DirPlays'. -/
def dirPlaysCard : Claim7 := { stood := { row := dirPlaysRow, standIns := [], harness := (true, "cb87cb357e291a6686e0ad5cd385948e44a15b121dc96237010ded1f38125ef0"), looks := false }, kinds := [], alts := [], laidByText := true, laidKinds := [.data, .pinned], laidTests := true, laidLooks := .later }
def DirPlaysCardSaid : Prop := Claim7.holds Tryz.pinned (.plain (OpenSpec.ofChange dirPlaysSpec)) dirPlaysCard

/-- THE TIED CARD OF 'garrisonlaw10.InstPlays'. -/
def instPlaysCard : Claim7 := { stood := { row := instPlaysRow, standIns := [], harness := (true, "cb87cb357e291a6686e0ad5cd385948e44a15b121dc96237010ded1f38125ef0"), looks := false }, kinds := [], alts := [], laidByText := true, laidKinds := [.data, .pinned], laidTests := true, laidLooks := .later }
def InstPlaysCardSaid : Prop := Claim7.holds Tryz.pinned (.plain (OpenSpec.ofChange instPlaysSpec)) instPlaysCard

/-- THE TIED CARD OF 'garrisonlaw10.InstApart'. -/
def instApartCard : Claim7 := { stood := { row := instApartRow, standIns := [], harness := (true, "cb87cb357e291a6686e0ad5cd385948e44a15b121dc96237010ded1f38125ef0"), looks := false }, kinds := [], alts := [], laidByText := true, laidKinds := [.data, .pinned], laidTests := true, laidLooks := .later }
def InstApartCardSaid : Prop := Claim7.holds Tryz.pinned (.plain (OpenSpec.ofChange instApartSpec)) instApartCard

/-- THE TIED CARD OF 'garrisonlaw10.InstNone'. -/
def instNoneCard : Claim7 := { stood := { row := instNoneRow, standIns := [], harness := (true, "cb87cb357e291a6686e0ad5cd385948e44a15b121dc96237010ded1f38125ef0"), looks := false }, kinds := [], alts := [], laidByText := true, laidKinds := [.data, .pinned], laidTests := true, laidLooks := .later }
def InstNoneCardSaid : Prop := Claim7.holds Tryz.pinned (.plain (OpenSpec.ofChange instNoneSpec)) instNoneCard

/-- THE SECOND FORM's CARD OF 'garrisonlaw09.DirPlays'. -/
def dirPlaysUptoCard : Claim7 := { stood := { row := dirPlaysUptoRow, standIns := [], harness := (true, "cb87cb357e291a6686e0ad5cd385948e44a15b121dc96237010ded1f38125ef0"), looks := false }, kinds := [], alts := [], laidByText := true, laidKinds := [.data, .pinned], laidTests := true, laidLooks := .later }
def DirPlaysUptoCardSaid : Prop := Claim7.holds Tryz.pinned (.plain (OpenSpec.upto dirPlaysSpec)) dirPlaysUptoCard

/-- THE SECOND FORM's CARD OF 'garrisonlaw10.InstPlays'. -/
def instPlaysUptoCard : Claim7 := { stood := { row := instPlaysUptoRow, standIns := [], harness := (true, "cb87cb357e291a6686e0ad5cd385948e44a15b121dc96237010ded1f38125ef0"), looks := false }, kinds := [], alts := [], laidByText := true, laidKinds := [.data, .pinned], laidTests := true, laidLooks := .later }
def InstPlaysUptoCardSaid : Prop := Claim7.holds Tryz.pinned (.plain (OpenSpec.upto instPlaysSpec)) instPlaysUptoCard

/-- THE SECOND FORM's CARD OF 'garrisonlaw10.InstApart'. -/
def instApartUptoCard : Claim7 := { stood := { row := instApartUptoRow, standIns := [], harness := (true, "cb87cb357e291a6686e0ad5cd385948e44a15b121dc96237010ded1f38125ef0"), looks := false }, kinds := [], alts := [], laidByText := true, laidKinds := [.data, .pinned], laidTests := true, laidLooks := .later }
def InstApartUptoCardSaid : Prop := Claim7.holds Tryz.pinned (.plain (OpenSpec.upto instApartSpec)) instApartUptoCard

/-- THE SECOND FORM's CARD OF 'garrisonlaw10.InstNone'. -/
def instNoneUptoCard : Claim7 := { stood := { row := instNoneUptoRow, standIns := [], harness := (true, "cb87cb357e291a6686e0ad5cd385948e44a15b121dc96237010ded1f38125ef0"), looks := false }, kinds := [], alts := [], laidByText := true, laidKinds := [.data, .pinned], laidTests := true, laidLooks := .later }
def InstNoneUptoCardSaid : Prop := Claim7.holds Tryz.pinned (.plain (OpenSpec.upto instNoneSpec)) instNoneUptoCard
end Rows
end Go.Proofs.YteaoabppppbkoaaGreatDoor
