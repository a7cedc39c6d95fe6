/-
  DERIVED. GIVEN WITH THE SEED: THE CARDS: each row of YtajmhllldocpjaaDoorRows.lean that lists a variable, with what it lists TIED to the program's text (the seventh form; the later family's looks); each row that meets fmt, with fmt's text TOLD by the authors' own Lean function (tested against real Go, not proved from fmt's source: count such statements apart). THE CARD IS WHAT COUNTS. Prove the row's statement (the work); the ties are given (YtajmhllldocpjaaDoorTie.lean); close each card by the builder's one call (the guide's Derived/Test/ToyasCard.lean, 'card_holds'). Laid BY PROGRAM, IN A SANDBOX (cutbox-door.mjs). By AI agents, Wed Nov 11 2026. No macro, syntax, notation, axiom, sorry.
-/
import Derived.Test.YtajmhllldocpjaaDoorRows
import GoSem.ClaimSeven
namespace Go.Proofs.YtajmhllldocpjaaDoor
namespace Rows

/-- THE TIED CARD OF 'bosunlaw07.JlexWhole'. -/
def jlexWholeCard : Claim7 := { stood := { row := jlexWholeRow, standIns := [], harness := (true, "c362af316982bfca7f5695f283a0fd6b47e4bd8b342fb75cc2c3424b0c5bdc3a"), looks := true }, kinds := [], alts := [], laidByText := true, laidKinds := [.data, .data, .data, .data, .sentinel, .sentinel, .pinned], laidTests := true, laidLooks := .later }
def JlexWholeCardSaid : Prop := Claim7.holds Tryd.pinned (.plain (OpenSpec.ofChange jlexWholeSpec)) jlexWholeCard

/-- THE TIED CARD OF 'bosunlaw07.JlexAgain'. -/
def jlexAgainCard : Claim7 := { stood := { row := jlexAgainRow, standIns := [], harness := (true, "c362af316982bfca7f5695f283a0fd6b47e4bd8b342fb75cc2c3424b0c5bdc3a"), looks := true }, kinds := [], alts := [], laidByText := true, laidKinds := [.data, .data, .data, .data, .sentinel, .sentinel, .pinned], laidTests := true, laidLooks := .later }
def JlexAgainCardSaid : Prop := Claim7.holds Tryd.pinned (.plain (OpenSpec.ofChange jlexAgainSpec)) jlexAgainCard

/-- THE SECOND FORM's CARD OF 'bosunlaw07.JlexWhole'. -/
def jlexWholeUptoCard : Claim7 := { stood := { row := jlexWholeUptoRow, standIns := [], harness := (true, "c362af316982bfca7f5695f283a0fd6b47e4bd8b342fb75cc2c3424b0c5bdc3a"), looks := true }, kinds := [], alts := [], laidByText := true, laidKinds := [.data, .data, .data, .data, .sentinel, .sentinel, .pinned], laidTests := true, laidLooks := .later }
def JlexWholeUptoCardSaid : Prop := Claim7.holds Tryd.pinned (.plain (OpenSpec.upto jlexWholeSpec)) jlexWholeUptoCard

/-- THE SECOND FORM's CARD OF 'bosunlaw07.JlexAgain'. -/
def jlexAgainUptoCard : Claim7 := { stood := { row := jlexAgainUptoRow, standIns := [], harness := (true, "c362af316982bfca7f5695f283a0fd6b47e4bd8b342fb75cc2c3424b0c5bdc3a"), looks := true }, kinds := [], alts := [], laidByText := true, laidKinds := [.data, .data, .data, .data, .sentinel, .sentinel, .pinned], laidTests := true, laidLooks := .later }
def JlexAgainUptoCardSaid : Prop := Claim7.holds Tryd.pinned (.plain (OpenSpec.upto jlexAgainSpec)) jlexAgainUptoCard
end Rows
end Go.Proofs.YtajmhllldocpjaaDoor
