/-
  DERIVED. GIVEN WITH THE SEED: THE CARDS: each row of YtafgiljgefeefaaDoorRows.lean that lists a variable, with what it lists TIED to the program's text (the seventh form; the later family's looks); each row that meets fmt, with fmt's text TOLD by the authors' own Lean function (tested against real Go, not proved from fmt's source: count such statements apart). THE CARD IS WHAT COUNTS. Prove the row's statement (the work); the ties are given (YtafgiljgefeefaaDoorTie.lean); close each card by the builder's one call (the guide's Derived/Test/ToyasCard.lean, 'card_holds'). Laid BY PROGRAM, IN A SANDBOX (cutbox-door.mjs). By AI agents, Wed Nov 11 2026. No macro, syntax, notation, axiom, sorry.
-/
import Derived.Test.YtafgiljgefeefaaDoorRows
import GoSem.ClaimSeven
namespace Go.Proofs.YtafgiljgefeefaaDoor
namespace Rows

/-- THE TIED CARD OF 'triremelaw24.NetPlays'. -/
def netPlaysCard : Claim7 := { stood := { row := netPlaysRow, standIns := [], harness := (true, "33ceae37c9d3588b22df7a6ee0f2f769aea7b66e912e69324792add49b0587f4"), looks := false }, kinds := [], alts := [], laidByText := true, laidKinds := [.data], laidTests := true, laidLooks := .later }
def NetPlaysCardSaid : Prop := Claim7.holds Tryd.pinned (.plain (OpenSpec.ofChange netPlaysSpec)) netPlaysCard

/-- THE TIED CARD OF 'triremelaw24.NetWhole'. -/
def netWholeCard : Claim7 := { stood := { row := netWholeRow, standIns := [], harness := (true, "33ceae37c9d3588b22df7a6ee0f2f769aea7b66e912e69324792add49b0587f4"), looks := false }, kinds := [], alts := [], laidByText := true, laidKinds := [.data], laidTests := true, laidLooks := .later }
def NetWholeCardSaid : Prop := Claim7.holds Tryd.pinned (.plain (OpenSpec.ofChange netWholeSpec)) netWholeCard

/-- THE TIED CARD OF 'triremelaw24.NetFirst'. -/
def netFirstCard : Claim7 := { stood := { row := netFirstRow, standIns := [], harness := (true, "33ceae37c9d3588b22df7a6ee0f2f769aea7b66e912e69324792add49b0587f4"), looks := false }, kinds := [], alts := [], laidByText := true, laidKinds := [.data], laidTests := true, laidLooks := .later }
def NetFirstCardSaid : Prop := Claim7.holds Tryd.pinned (.plain (OpenSpec.ofChange netFirstSpec)) netFirstCard

/-- THE SECOND FORM's CARD OF 'triremelaw24.NetPlays'. -/
def netPlaysUptoCard : Claim7 := { stood := { row := netPlaysUptoRow, standIns := [], harness := (true, "33ceae37c9d3588b22df7a6ee0f2f769aea7b66e912e69324792add49b0587f4"), looks := false }, kinds := [], alts := [], laidByText := true, laidKinds := [.data], laidTests := true, laidLooks := .later }
def NetPlaysUptoCardSaid : Prop := Claim7.holds Tryd.pinned (.plain (OpenSpec.upto netPlaysSpec)) netPlaysUptoCard

/-- THE SECOND FORM's CARD OF 'triremelaw24.NetWhole'. -/
def netWholeUptoCard : Claim7 := { stood := { row := netWholeUptoRow, standIns := [], harness := (true, "33ceae37c9d3588b22df7a6ee0f2f769aea7b66e912e69324792add49b0587f4"), looks := false }, kinds := [], alts := [], laidByText := true, laidKinds := [.data], laidTests := true, laidLooks := .later }
def NetWholeUptoCardSaid : Prop := Claim7.holds Tryd.pinned (.plain (OpenSpec.upto netWholeSpec)) netWholeUptoCard

/-- THE SECOND FORM's CARD OF 'triremelaw24.NetFirst'. -/
def netFirstUptoCard : Claim7 := { stood := { row := netFirstUptoRow, standIns := [], harness := (true, "33ceae37c9d3588b22df7a6ee0f2f769aea7b66e912e69324792add49b0587f4"), looks := false }, kinds := [], alts := [], laidByText := true, laidKinds := [.data], laidTests := true, laidLooks := .later }
def NetFirstUptoCardSaid : Prop := Claim7.holds Tryd.pinned (.plain (OpenSpec.upto netFirstSpec)) netFirstUptoCard
end Rows
end Go.Proofs.YtafgiljgefeefaaDoor
