/-
  DERIVED. GIVEN WITH THE SEED: THE CARDS: each row of YtldncgelghcjeaaGreatDoorRows.lean that lists a variable, with what it lists TIED to the program's text (the seventh form; the later family's looks); each row that meets fmt, with fmt's text TOLD by the authors' own Lean function (tested against real Go, not proved from fmt's source: count such statements apart). THE CARD IS WHAT COUNTS. Prove the row's statement (the work); the ties are given (YtldncgelghcjeaaGreatDoorTie.lean); close each card by the builder's one call (the guide's Derived/Test/ToyasCard.lean, 'card_holds'). Laid BY PROGRAM, IN A SANDBOX (cutbox-door.mjs). By AI agents, Wed Nov 11 2026. No macro, syntax, notation, axiom, sorry.
-/
import Derived.Test.YtldncgelghcjeaaGreatDoorRows
import GoSem.ClaimSeven
namespace Go.Proofs.YtldncgelghcjeaaGreatDoor
namespace Rows

/-- THE TIED CARD OF 'bosunlaw19.CkthreeCodes'. -/
def ckthreeCodesCard : Claim7 := { stood := { row := ckthreeCodesRow, standIns := [], harness := (true, "cbb95464554dc100be402230927ea7fe98e25ae11b782a971d9bac53cb538b15"), looks := false }, kinds := [], alts := [], laidByText := true, laidKinds := [.data, .pinned], laidTests := true, laidLooks := .later }
def CkthreeCodesCardSaid : Prop := Claim7.holds Tryz.pinned (.plain (OpenSpec.ofChange ckthreeCodesSpec)) ckthreeCodesCard

/-- THE TIED CARD OF 'bosunlaw19.CkthreeReads'. -/
def ckthreeReadsCard : Claim7 := { stood := { row := ckthreeReadsRow, standIns := [], harness := (true, "cbb95464554dc100be402230927ea7fe98e25ae11b782a971d9bac53cb538b15"), looks := false }, kinds := [], alts := [], laidByText := true, laidKinds := [.data, .pinned], laidTests := true, laidLooks := .later }
def CkthreeReadsCardSaid : Prop := Claim7.holds Tryz.pinned (.plain (OpenSpec.ofChange ckthreeReadsSpec)) ckthreeReadsCard

/-- THE TIED CARD OF 'bosunlaw19.CkthreeBack'. -/
def ckthreeBackCard : Claim7 := { stood := { row := ckthreeBackRow, standIns := [], harness := (true, "cbb95464554dc100be402230927ea7fe98e25ae11b782a971d9bac53cb538b15"), looks := false }, kinds := [], alts := [], laidByText := true, laidKinds := [.data, .pinned], laidTests := true, laidLooks := .later }
def CkthreeBackCardSaid : Prop := Claim7.holds Tryz.pinned (.plain (OpenSpec.ofChange ckthreeBackSpec)) ckthreeBackCard

/-- THE TIED CARD OF 'bosunlaw20.UpgradeMakes'. -/
def upgradeMakesCard : Claim7 := { stood := { row := upgradeMakesRow, standIns := [], harness := (true, "cbb95464554dc100be402230927ea7fe98e25ae11b782a971d9bac53cb538b15"), looks := false }, kinds := [], alts := [], laidByText := true, laidKinds := [.data, .pinned], laidTests := true, laidLooks := .later }
def UpgradeMakesCardSaid : Prop := Claim7.holds Tryz.pinned (.plain (OpenSpec.ofChange upgradeMakesSpec)) upgradeMakesCard

/-- THE TIED CARD OF 'bosunlaw20.UpgradeDown'. -/
def upgradeDownCard : Claim7 := { stood := { row := upgradeDownRow, standIns := [], harness := (true, "cbb95464554dc100be402230927ea7fe98e25ae11b782a971d9bac53cb538b15"), looks := false }, kinds := [], alts := [], laidByText := true, laidKinds := [.data, .pinned], laidTests := true, laidLooks := .later }
def UpgradeDownCardSaid : Prop := Claim7.holds Tryz.pinned (.plain (OpenSpec.ofChange upgradeDownSpec)) upgradeDownCard

/-- THE TIED CARD OF 'bosunlaw20.UpgradeKeeps'. -/
def upgradeKeepsCard : Claim7 := { stood := { row := upgradeKeepsRow, standIns := [], harness := (true, "cbb95464554dc100be402230927ea7fe98e25ae11b782a971d9bac53cb538b15"), looks := false }, kinds := [], alts := [], laidByText := true, laidKinds := [.data, .pinned], laidTests := true, laidLooks := .later }
def UpgradeKeepsCardSaid : Prop := Claim7.holds Tryz.pinned (.plain (OpenSpec.ofChange upgradeKeepsSpec)) upgradeKeepsCard

/-- THE SECOND FORM's CARD OF 'bosunlaw19.CkthreeCodes'. -/
def ckthreeCodesUptoCard : Claim7 := { stood := { row := ckthreeCodesUptoRow, standIns := [], harness := (true, "cbb95464554dc100be402230927ea7fe98e25ae11b782a971d9bac53cb538b15"), looks := false }, kinds := [], alts := [], laidByText := true, laidKinds := [.data, .pinned], laidTests := true, laidLooks := .later }
def CkthreeCodesUptoCardSaid : Prop := Claim7.holds Tryz.pinned (.plain (OpenSpec.upto ckthreeCodesSpec)) ckthreeCodesUptoCard

/-- THE SECOND FORM's CARD OF 'bosunlaw19.CkthreeReads'. -/
def ckthreeReadsUptoCard : Claim7 := { stood := { row := ckthreeReadsUptoRow, standIns := [], harness := (true, "cbb95464554dc100be402230927ea7fe98e25ae11b782a971d9bac53cb538b15"), looks := false }, kinds := [], alts := [], laidByText := true, laidKinds := [.data, .pinned], laidTests := true, laidLooks := .later }
def CkthreeReadsUptoCardSaid : Prop := Claim7.holds Tryz.pinned (.plain (OpenSpec.upto ckthreeReadsSpec)) ckthreeReadsUptoCard

/-- THE SECOND FORM's CARD OF 'bosunlaw19.CkthreeBack'. -/
def ckthreeBackUptoCard : Claim7 := { stood := { row := ckthreeBackUptoRow, standIns := [], harness := (true, "cbb95464554dc100be402230927ea7fe98e25ae11b782a971d9bac53cb538b15"), looks := false }, kinds := [], alts := [], laidByText := true, laidKinds := [.data, .pinned], laidTests := true, laidLooks := .later }
def CkthreeBackUptoCardSaid : Prop := Claim7.holds Tryz.pinned (.plain (OpenSpec.upto ckthreeBackSpec)) ckthreeBackUptoCard

/-- THE SECOND FORM's CARD OF 'bosunlaw20.UpgradeMakes'. -/
def upgradeMakesUptoCard : Claim7 := { stood := { row := upgradeMakesUptoRow, standIns := [], harness := (true, "cbb95464554dc100be402230927ea7fe98e25ae11b782a971d9bac53cb538b15"), looks := false }, kinds := [], alts := [], laidByText := true, laidKinds := [.data, .pinned], laidTests := true, laidLooks := .later }
def UpgradeMakesUptoCardSaid : Prop := Claim7.holds Tryz.pinned (.plain (OpenSpec.upto upgradeMakesSpec)) upgradeMakesUptoCard

/-- THE SECOND FORM's CARD OF 'bosunlaw20.UpgradeDown'. -/
def upgradeDownUptoCard : Claim7 := { stood := { row := upgradeDownUptoRow, standIns := [], harness := (true, "cbb95464554dc100be402230927ea7fe98e25ae11b782a971d9bac53cb538b15"), looks := false }, kinds := [], alts := [], laidByText := true, laidKinds := [.data, .pinned], laidTests := true, laidLooks := .later }
def UpgradeDownUptoCardSaid : Prop := Claim7.holds Tryz.pinned (.plain (OpenSpec.upto upgradeDownSpec)) upgradeDownUptoCard

/-- THE SECOND FORM's CARD OF 'bosunlaw20.UpgradeKeeps'. -/
def upgradeKeepsUptoCard : Claim7 := { stood := { row := upgradeKeepsUptoRow, standIns := [], harness := (true, "cbb95464554dc100be402230927ea7fe98e25ae11b782a971d9bac53cb538b15"), looks := false }, kinds := [], alts := [], laidByText := true, laidKinds := [.data, .pinned], laidTests := true, laidLooks := .later }
def UpgradeKeepsUptoCardSaid : Prop := Claim7.holds Tryz.pinned (.plain (OpenSpec.upto upgradeKeepsSpec)) upgradeKeepsUptoCard
end Rows
end Go.Proofs.YtldncgelghcjeaaGreatDoor
