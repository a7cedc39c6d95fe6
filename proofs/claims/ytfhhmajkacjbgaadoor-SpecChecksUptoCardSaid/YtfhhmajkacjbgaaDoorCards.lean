/-
  DERIVED. GIVEN WITH THE SEED: THE CARDS: each row of YtfhhmajkacjbgaaDoorRows.lean that lists a variable, with what it lists TIED to the program's text (the seventh form; the later family's looks); each row that meets fmt, with fmt's text TOLD by the authors' own Lean function (tested against real Go, not proved from fmt's source: count such statements apart). THE CARD IS WHAT COUNTS. Prove the row's statement (the work); the ties are given (YtfhhmajkacjbgaaDoorTie.lean); close each card by the builder's one call (the guide's Derived/Test/ToyasCard.lean, 'card_holds'). Laid BY PROGRAM, IN A SANDBOX (cutbox-door.mjs). By AI agents, Wed Nov 11 2026. No macro, syntax, notation, axiom, sorry.
-/
import Derived.Test.YtfhhmajkacjbgaaDoorRows
import GoSem.ClaimSeven
namespace Go.Proofs.YtfhhmajkacjbgaaDoor
namespace Rows

/-- THE TIED CARD OF 'bosunlaw14.SpecChecks'. -/
def specChecksCard : Claim7 := { stood := { row := specChecksRow, standIns := [], harness := (true, "07bd12a82a0ea91ffa744ae897c0dff42d998ef54606145930bef1392be06685"), looks := false }, kinds := [], alts := [], laidByText := true, laidKinds := [.data, .pinned], laidTests := true, laidLooks := .later }
def SpecChecksCardSaid : Prop := Claim7.holds Tryd.pinned (.plain (OpenSpec.ofChange specChecksSpec)) specChecksCard

/-- THE TIED CARD OF 'bosunlaw14.SpecWords'. -/
def specWordsCard : Claim7 := { stood := { row := specWordsRow, standIns := [], harness := (true, "07bd12a82a0ea91ffa744ae897c0dff42d998ef54606145930bef1392be06685"), looks := false }, kinds := [], alts := [], laidByText := true, laidKinds := [.data, .data, .data, .pinned], laidTests := true, laidLooks := .later }
def SpecWordsCardSaid : Prop := Claim7.holds Tryd.pinned (.plain (OpenSpec.ofChange specWordsSpec)) specWordsCard

/-- THE TIED CARD OF 'bosunlaw14.SpecDefaults'. -/
def specDefaultsCard : Claim7 := { stood := { row := specDefaultsRow, standIns := [], harness := (true, "07bd12a82a0ea91ffa744ae897c0dff42d998ef54606145930bef1392be06685"), looks := false }, kinds := [], alts := [], laidByText := true, laidKinds := [.data, .pinned], laidTests := true, laidLooks := .later }
def SpecDefaultsCardSaid : Prop := Claim7.holds Tryd.pinned (.plain (OpenSpec.ofChange specDefaultsSpec)) specDefaultsCard

/-- THE SECOND FORM's CARD OF 'bosunlaw14.SpecChecks'. -/
def specChecksUptoCard : Claim7 := { stood := { row := specChecksUptoRow, standIns := [], harness := (true, "07bd12a82a0ea91ffa744ae897c0dff42d998ef54606145930bef1392be06685"), looks := false }, kinds := [], alts := [], laidByText := true, laidKinds := [.data, .pinned], laidTests := true, laidLooks := .later }
def SpecChecksUptoCardSaid : Prop := Claim7.holds Tryd.pinned (.plain (OpenSpec.upto specChecksSpec)) specChecksUptoCard

/-- THE SECOND FORM's CARD OF 'bosunlaw14.SpecWords'. -/
def specWordsUptoCard : Claim7 := { stood := { row := specWordsUptoRow, standIns := [], harness := (true, "07bd12a82a0ea91ffa744ae897c0dff42d998ef54606145930bef1392be06685"), looks := false }, kinds := [], alts := [], laidByText := true, laidKinds := [.data, .data, .data, .pinned], laidTests := true, laidLooks := .later }
def SpecWordsUptoCardSaid : Prop := Claim7.holds Tryd.pinned (.plain (OpenSpec.upto specWordsSpec)) specWordsUptoCard

/-- THE SECOND FORM's CARD OF 'bosunlaw14.SpecDefaults'. -/
def specDefaultsUptoCard : Claim7 := { stood := { row := specDefaultsUptoRow, standIns := [], harness := (true, "07bd12a82a0ea91ffa744ae897c0dff42d998ef54606145930bef1392be06685"), looks := false }, kinds := [], alts := [], laidByText := true, laidKinds := [.data, .pinned], laidTests := true, laidLooks := .later }
def SpecDefaultsUptoCardSaid : Prop := Claim7.holds Tryd.pinned (.plain (OpenSpec.upto specDefaultsSpec)) specDefaultsUptoCard
end Rows
end Go.Proofs.YtfhhmajkacjbgaaDoor
