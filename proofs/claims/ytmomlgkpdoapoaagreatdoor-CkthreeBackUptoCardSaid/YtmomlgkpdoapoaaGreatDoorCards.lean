/-
  DERIVED. GIVEN WITH THE SEED: THE CARDS: each row of YtmomlgkpdoapoaaGreatDoorRows.lean that lists a variable, with what it lists TIED to the program's text (the seventh form; the later family's looks); each row that meets fmt, with fmt's text TOLD by the authors' own Lean function (tested against real Go, not proved from fmt's source: count such statements apart). THE CARD IS WHAT COUNTS. Prove the row's statement (the work); the ties are given (YtmomlgkpdoapoaaGreatDoorTie.lean); close each card by the builder's one call (the guide's Derived/Test/ToyasCard.lean, 'card_holds'). Laid BY PROGRAM, IN A SANDBOX (cutbox-door.mjs). By AI agents, Wed Nov 11 2026. No macro, syntax, notation, axiom, sorry.
-/
import Derived.Test.YtmomlgkpdoapoaaGreatDoorRows
import GoSem.ClaimSeven
namespace Go.Proofs.YtmomlgkpdoapoaaGreatDoor
namespace Rows

/-- THE TIED CARD OF 'bosunlaw19.CkthreeCodes'. -/
def ckthreeCodesCard : Claim7 := { stood := { row := ckthreeCodesRow, standIns := [], harness := (true, "8adfd07c8c452849a72c1f74625469fdbc11b083862db44b03ad3daeab170312"), looks := false }, kinds := [], alts := [], laidByText := true, laidKinds := [.data, .pinned], laidTests := true, laidLooks := .later }
def CkthreeCodesCardSaid : Prop := Claim7.holds Tryz.pinned (.plain (OpenSpec.ofChange ckthreeCodesSpec)) ckthreeCodesCard

/-- THE TIED CARD OF 'bosunlaw19.CkthreeReads'. -/
def ckthreeReadsCard : Claim7 := { stood := { row := ckthreeReadsRow, standIns := [], harness := (true, "8adfd07c8c452849a72c1f74625469fdbc11b083862db44b03ad3daeab170312"), looks := false }, kinds := [], alts := [], laidByText := true, laidKinds := [.data, .pinned], laidTests := true, laidLooks := .later }
def CkthreeReadsCardSaid : Prop := Claim7.holds Tryz.pinned (.plain (OpenSpec.ofChange ckthreeReadsSpec)) ckthreeReadsCard

/-- THE TIED CARD OF 'bosunlaw19.CkthreeBack'. -/
def ckthreeBackCard : Claim7 := { stood := { row := ckthreeBackRow, standIns := [], harness := (true, "8adfd07c8c452849a72c1f74625469fdbc11b083862db44b03ad3daeab170312"), looks := false }, kinds := [], alts := [], laidByText := true, laidKinds := [.data, .pinned], laidTests := true, laidLooks := .later }
def CkthreeBackCardSaid : Prop := Claim7.holds Tryz.pinned (.plain (OpenSpec.ofChange ckthreeBackSpec)) ckthreeBackCard

/-- THE SECOND FORM's CARD OF 'bosunlaw19.CkthreeCodes'. -/
def ckthreeCodesUptoCard : Claim7 := { stood := { row := ckthreeCodesUptoRow, standIns := [], harness := (true, "8adfd07c8c452849a72c1f74625469fdbc11b083862db44b03ad3daeab170312"), looks := false }, kinds := [], alts := [], laidByText := true, laidKinds := [.data, .pinned], laidTests := true, laidLooks := .later }
def CkthreeCodesUptoCardSaid : Prop := Claim7.holds Tryz.pinned (.plain (OpenSpec.upto ckthreeCodesSpec)) ckthreeCodesUptoCard

/-- THE SECOND FORM's CARD OF 'bosunlaw19.CkthreeReads'. -/
def ckthreeReadsUptoCard : Claim7 := { stood := { row := ckthreeReadsUptoRow, standIns := [], harness := (true, "8adfd07c8c452849a72c1f74625469fdbc11b083862db44b03ad3daeab170312"), looks := false }, kinds := [], alts := [], laidByText := true, laidKinds := [.data, .pinned], laidTests := true, laidLooks := .later }
def CkthreeReadsUptoCardSaid : Prop := Claim7.holds Tryz.pinned (.plain (OpenSpec.upto ckthreeReadsSpec)) ckthreeReadsUptoCard

/-- THE SECOND FORM's CARD OF 'bosunlaw19.CkthreeBack'. -/
def ckthreeBackUptoCard : Claim7 := { stood := { row := ckthreeBackUptoRow, standIns := [], harness := (true, "8adfd07c8c452849a72c1f74625469fdbc11b083862db44b03ad3daeab170312"), looks := false }, kinds := [], alts := [], laidByText := true, laidKinds := [.data, .pinned], laidTests := true, laidLooks := .later }
def CkthreeBackUptoCardSaid : Prop := Claim7.holds Tryz.pinned (.plain (OpenSpec.upto ckthreeBackSpec)) ckthreeBackUptoCard
end Rows
end Go.Proofs.YtmomlgkpdoapoaaGreatDoor
