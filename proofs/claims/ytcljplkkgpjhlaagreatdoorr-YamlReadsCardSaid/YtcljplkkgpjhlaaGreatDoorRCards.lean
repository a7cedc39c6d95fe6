/-
  DERIVED. GIVEN WITH THE SEED: THE CARDS: each row of YtcljplkkgpjhlaaGreatDoorRRows.lean that lists a variable, with what it lists TIED to the program's text (the seventh form; the later family's looks); each row that meets fmt, with fmt's text TOLD by the authors' own Lean function (tested against real Go, not proved from fmt's source: count such statements apart). THE CARD IS WHAT COUNTS. Prove the row's statement (the work); the ties are given (YtcljplkkgpjhlaaGreatDoorRTie.lean); close each card by the builder's one call (the guide's Derived/Test/ToyasCard.lean, 'card_holds'). Laid BY PROGRAM, IN A SANDBOX (cutbox-door.mjs). By AI agents, Wed Nov 11 2026. No macro, syntax, notation, axiom, sorry.
-/
import Derived.Test.YtcljplkkgpjhlaaGreatDoorRRows
import GoSem.ClaimSeven
namespace Go.Proofs.YtcljplkkgpjhlaaGreatDoorR
namespace Rows

/-- THE TIED CARD OF 'bosunlaw11.YamlReads'. -/
def yamlReadsCard : Claim7 := { stood := { row := yamlReadsRow, standIns := [], harness := (true, "a5524d974ff846e7f059c52b88a66d16522f13caf2dcb8270683f243fed1b86d"), looks := true }, kinds := [], alts := [], laidByText := true, laidKinds := [.data, .data, .data, .data, .sentinel, .sentinel, .pinned], laidTests := true, laidLooks := .later }
def YamlReadsCardSaid : Prop := Claim7.holds Tryz.pinned (.plain (OpenSpec.ofChange yamlReadsSpec)) yamlReadsCard

/-- THE TIED CARD OF 'bosunlaw11.YamlKeys'. -/
def yamlKeysCard : Claim7 := { stood := { row := yamlKeysRow, standIns := [], harness := (true, "a5524d974ff846e7f059c52b88a66d16522f13caf2dcb8270683f243fed1b86d"), looks := true }, kinds := [], alts := [], laidByText := true, laidKinds := [.data, .data, .data, .data, .sentinel, .sentinel, .pinned], laidTests := true, laidLooks := .later }
def YamlKeysCardSaid : Prop := Claim7.holds Tryz.pinned (.plain (OpenSpec.ofChange yamlKeysSpec)) yamlKeysCard

/-- THE TIED CARD OF 'bosunlaw11.YamlDeep'. -/
def yamlDeepCard : Claim7 := { stood := { row := yamlDeepRow, standIns := [], harness := (true, "a5524d974ff846e7f059c52b88a66d16522f13caf2dcb8270683f243fed1b86d"), looks := true }, kinds := [], alts := [], laidByText := true, laidKinds := [.data, .data, .data, .data, .sentinel, .sentinel, .pinned], laidTests := true, laidLooks := .later }
def YamlDeepCardSaid : Prop := Claim7.holds Tryz.pinned (.plain (OpenSpec.ofChange yamlDeepSpec)) yamlDeepCard

/-- THE SECOND FORM's CARD OF 'bosunlaw11.YamlReads'. -/
def yamlReadsUptoCard : Claim7 := { stood := { row := yamlReadsUptoRow, standIns := [], harness := (true, "a5524d974ff846e7f059c52b88a66d16522f13caf2dcb8270683f243fed1b86d"), looks := true }, kinds := [], alts := [], laidByText := true, laidKinds := [.data, .data, .data, .data, .sentinel, .sentinel, .pinned], laidTests := true, laidLooks := .later }
def YamlReadsUptoCardSaid : Prop := Claim7.holds Tryz.pinned (.plain (OpenSpec.upto yamlReadsSpec)) yamlReadsUptoCard

/-- THE SECOND FORM's CARD OF 'bosunlaw11.YamlKeys'. -/
def yamlKeysUptoCard : Claim7 := { stood := { row := yamlKeysUptoRow, standIns := [], harness := (true, "a5524d974ff846e7f059c52b88a66d16522f13caf2dcb8270683f243fed1b86d"), looks := true }, kinds := [], alts := [], laidByText := true, laidKinds := [.data, .data, .data, .data, .sentinel, .sentinel, .pinned], laidTests := true, laidLooks := .later }
def YamlKeysUptoCardSaid : Prop := Claim7.holds Tryz.pinned (.plain (OpenSpec.upto yamlKeysSpec)) yamlKeysUptoCard

/-- THE SECOND FORM's CARD OF 'bosunlaw11.YamlDeep'. -/
def yamlDeepUptoCard : Claim7 := { stood := { row := yamlDeepUptoRow, standIns := [], harness := (true, "a5524d974ff846e7f059c52b88a66d16522f13caf2dcb8270683f243fed1b86d"), looks := true }, kinds := [], alts := [], laidByText := true, laidKinds := [.data, .data, .data, .data, .sentinel, .sentinel, .pinned], laidTests := true, laidLooks := .later }
def YamlDeepUptoCardSaid : Prop := Claim7.holds Tryz.pinned (.plain (OpenSpec.upto yamlDeepSpec)) yamlDeepUptoCard
end Rows
end Go.Proofs.YtcljplkkgpjhlaaGreatDoorR
