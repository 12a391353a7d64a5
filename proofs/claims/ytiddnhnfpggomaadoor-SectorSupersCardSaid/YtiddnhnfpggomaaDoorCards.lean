/-
  DERIVED. GIVEN WITH THE SEED: THE CARDS: each row of YtiddnhnfpggomaaDoorRows.lean that lists a variable, with what it lists TIED to the program's text (the seventh form; the later family's looks); each row that meets fmt, with fmt's text TOLD by the authors' own Lean function (tested against real Go, not proved from fmt's source: count such statements apart). THE CARD IS WHAT COUNTS. Prove the row's statement (the work); the ties are given (YtiddnhnfpggomaaDoorTie.lean); close each card by the builder's one call (the guide's Derived/Test/ToyasCard.lean, 'card_holds'). Laid BY PROGRAM, IN A SANDBOX (cutbox-door.mjs). By AI agents, Wed Nov 11 2026. No macro, syntax, notation, axiom, sorry.
-/
import Derived.Test.YtiddnhnfpggomaaDoorRows
import GoSem.ClaimSeven
namespace Go.Proofs.YtiddnhnfpggomaaDoor
namespace Rows

/-- THE TIED CARD OF 'triremelaw04.SectorWraps'. -/
def sectorWrapsCard : Claim7 := { stood := { row := sectorWrapsRow, standIns := [], harness := (true, "a2c9b474b2a9f3fc7c64b426585121003209d2eeeac3a3980addcc3872bc0d61"), looks := false }, kinds := [], alts := [], laidByText := true, laidKinds := [.data], laidTests := true, laidLooks := .later }
def SectorWrapsCardSaid : Prop := Claim7.holds Tryd.pinned (.plain (OpenSpec.ofChange sectorWrapsSpec)) sectorWrapsCard

/-- THE TIED CARD OF 'triremelaw04.SectorSupers'. -/
def sectorSupersCard : Claim7 := { stood := { row := sectorSupersRow, standIns := [], harness := (true, "a2c9b474b2a9f3fc7c64b426585121003209d2eeeac3a3980addcc3872bc0d61"), looks := false }, kinds := [], alts := [], laidByText := true, laidKinds := [.data], laidTests := true, laidLooks := .later }
def SectorSupersCardSaid : Prop := Claim7.holds Tryd.pinned (.plain (OpenSpec.ofChange sectorSupersSpec)) sectorSupersCard

/-- THE TIED CARD OF 'triremelaw04.SectorTorn'. -/
def sectorTornCard : Claim7 := { stood := { row := sectorTornRow, standIns := [], harness := (true, "a2c9b474b2a9f3fc7c64b426585121003209d2eeeac3a3980addcc3872bc0d61"), looks := false }, kinds := [], alts := [], laidByText := true, laidKinds := [.data], laidTests := true, laidLooks := .later }
def SectorTornCardSaid : Prop := Claim7.holds Tryd.pinned (.plain (OpenSpec.ofChange sectorTornSpec)) sectorTornCard

/-- THE TIED CARD OF 'triremelaw04.SectorApart'. -/
def sectorApartCard : Claim7 := { stood := { row := sectorApartRow, standIns := [], harness := (true, "a2c9b474b2a9f3fc7c64b426585121003209d2eeeac3a3980addcc3872bc0d61"), looks := false }, kinds := [], alts := [], laidByText := true, laidKinds := [.data], laidTests := true, laidLooks := .later }
def SectorApartCardSaid : Prop := Claim7.holds Tryd.pinned (.plain (OpenSpec.ofChange sectorApartSpec)) sectorApartCard

/-- THE TIED CARD OF 'triremelaw04.SectorUnlike'. -/
def sectorUnlikeCard : Claim7 := { stood := { row := sectorUnlikeRow, standIns := [], harness := (true, "a2c9b474b2a9f3fc7c64b426585121003209d2eeeac3a3980addcc3872bc0d61"), looks := false }, kinds := [], alts := [], laidByText := true, laidKinds := [.data], laidTests := true, laidLooks := .later }
def SectorUnlikeCardSaid : Prop := Claim7.holds Tryd.pinned (.plain (OpenSpec.ofChange sectorUnlikeSpec)) sectorUnlikeCard

/-- THE SECOND FORM's CARD OF 'triremelaw04.SectorWraps'. -/
def sectorWrapsUptoCard : Claim7 := { stood := { row := sectorWrapsUptoRow, standIns := [], harness := (true, "a2c9b474b2a9f3fc7c64b426585121003209d2eeeac3a3980addcc3872bc0d61"), looks := false }, kinds := [], alts := [], laidByText := true, laidKinds := [.data], laidTests := true, laidLooks := .later }
def SectorWrapsUptoCardSaid : Prop := Claim7.holds Tryd.pinned (.plain (OpenSpec.upto sectorWrapsSpec)) sectorWrapsUptoCard

/-- THE SECOND FORM's CARD OF 'triremelaw04.SectorSupers'. -/
def sectorSupersUptoCard : Claim7 := { stood := { row := sectorSupersUptoRow, standIns := [], harness := (true, "a2c9b474b2a9f3fc7c64b426585121003209d2eeeac3a3980addcc3872bc0d61"), looks := false }, kinds := [], alts := [], laidByText := true, laidKinds := [.data], laidTests := true, laidLooks := .later }
def SectorSupersUptoCardSaid : Prop := Claim7.holds Tryd.pinned (.plain (OpenSpec.upto sectorSupersSpec)) sectorSupersUptoCard

/-- THE SECOND FORM's CARD OF 'triremelaw04.SectorTorn'. -/
def sectorTornUptoCard : Claim7 := { stood := { row := sectorTornUptoRow, standIns := [], harness := (true, "a2c9b474b2a9f3fc7c64b426585121003209d2eeeac3a3980addcc3872bc0d61"), looks := false }, kinds := [], alts := [], laidByText := true, laidKinds := [.data], laidTests := true, laidLooks := .later }
def SectorTornUptoCardSaid : Prop := Claim7.holds Tryd.pinned (.plain (OpenSpec.upto sectorTornSpec)) sectorTornUptoCard

/-- THE SECOND FORM's CARD OF 'triremelaw04.SectorApart'. -/
def sectorApartUptoCard : Claim7 := { stood := { row := sectorApartUptoRow, standIns := [], harness := (true, "a2c9b474b2a9f3fc7c64b426585121003209d2eeeac3a3980addcc3872bc0d61"), looks := false }, kinds := [], alts := [], laidByText := true, laidKinds := [.data], laidTests := true, laidLooks := .later }
def SectorApartUptoCardSaid : Prop := Claim7.holds Tryd.pinned (.plain (OpenSpec.upto sectorApartSpec)) sectorApartUptoCard

/-- THE SECOND FORM's CARD OF 'triremelaw04.SectorUnlike'. -/
def sectorUnlikeUptoCard : Claim7 := { stood := { row := sectorUnlikeUptoRow, standIns := [], harness := (true, "a2c9b474b2a9f3fc7c64b426585121003209d2eeeac3a3980addcc3872bc0d61"), looks := false }, kinds := [], alts := [], laidByText := true, laidKinds := [.data], laidTests := true, laidLooks := .later }
def SectorUnlikeUptoCardSaid : Prop := Claim7.holds Tryd.pinned (.plain (OpenSpec.upto sectorUnlikeSpec)) sectorUnlikeUptoCard
end Rows
end Go.Proofs.YtiddnhnfpggomaaDoor
