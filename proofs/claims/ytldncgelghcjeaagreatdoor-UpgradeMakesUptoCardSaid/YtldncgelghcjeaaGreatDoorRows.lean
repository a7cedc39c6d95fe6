/-
  NARROWER THAN 'FOR EVERY INPUT', by the rows' own cells (each row's printed sentence says how): CkthreeCodes: laid · CkthreeReads: laid · CkthreeBack: laid · UpgradeMakes: laid · UpgradeDown: laid · UpgradeKeeps: laid.
  DERIVED. THE GIVEN ROWS OF THIS SEAT. 6 by the template 'for every input the law returns true; each argument reads behind the call as it read before'; 0 by the template 'total and deterministic' (their statements: YtldncgelghcjeaaGreatDoorTotals.lean).
  GIVEN WITH THE SEED: the statements are not yours to turn. If you find one false, say at which input.
  Laid BY PROGRAM, IN A SANDBOX (cutbox-rows.mjs): the forced cells as the released guide's own fill.sh prints them over the translation 64c8f2fc7affcd09… (all of the seat's roots in one cut). By AI agents, Wed Nov 11 2026. No macro, syntax, notation, axiom, sorry.
-/
import Derived.Test.YtldncgelghcjeaaGreatDoorChecked
import GoSem.PinnedTables
import GoSem.Claim
import GoSem.ClaimJoined
import GoSem.ClaimMapViews
import Derived.JoinedTies
import Derived.KernelRfl
namespace Go.Proofs.YtldncgelghcjeaaGreatDoor
/- THE CELL 'sum', in the pinned program and in every row, IS THE sha256 OF THE DUMP (.gsa) THAT YtldncgelghcjeaaGreatDoorProg.lean LOADS. Nothing in Lean hashes anything: it is a label: what it is worth is what the hold of that sum in a sandbox is worth. -/
noncomputable def Tryz.pinned : Pinned := { name := "ytldncgelghcjeaagreatdoor", sum := "64c8f2fc7affcd09c2f181ebe8ae84acd73214aeaa73fd24512f8f3af347f379", checked := Tryz.checked }
namespace Rows
def none {H : Type} : Left H := { results := [], args := [] }

/- WHAT THE LISTED PACKAGE-LEVEL VARIABLES READ AS WHEN THE CALL BEGINS. Each datum BY PROGRAM (the guide's laid-datum.mjs) off the statement by which the dump's own 'gosem.cut.vars' lays the variable. In a bare row this is a premise. The card (YtldncgelghcjeaaGreatDoorCards.lean) ties it to the program's text. -/
def laid_unicode_utf8_acceptRanges {H : Type} : DataW H := .agg [.agg [.lit (.int .u8 128), .lit (.int .u8 191)], .agg [.lit (.int .u8 160), .lit (.int .u8 191)], .agg [.lit (.int .u8 128), .lit (.int .u8 159)], .agg [.lit (.int .u8 144), .lit (.int .u8 191)], .agg [.lit (.int .u8 128), .lit (.int .u8 143)], .agg [.lit (.int .u8 0), .lit (.int .u8 0)], .agg [.lit (.int .u8 0), .lit (.int .u8 0)], .agg [.lit (.int .u8 0), .lit (.int .u8 0)], .agg [.lit (.int .u8 0), .lit (.int .u8 0)], .agg [.lit (.int .u8 0), .lit (.int .u8 0)], .agg [.lit (.int .u8 0), .lit (.int .u8 0)], .agg [.lit (.int .u8 0), .lit (.int .u8 0)], .agg [.lit (.int .u8 0), .lit (.int .u8 0)], .agg [.lit (.int .u8 0), .lit (.int .u8 0)], .agg [.lit (.int .u8 0), .lit (.int .u8 0)], .agg [.lit (.int .u8 0), .lit (.int .u8 0)]]
/-- One of Go's own tables, pinned by name: the form's constant. -/
def laid_unicode_utf8_first : DataW Unit := Go.Pinned.utf8First

/-- 'bosunlaw19.CkthreeCodes': WHATEVER THE INPUT: true; the input reads as it did. -/
def ckthreeCodesSpec : ChangeSpec := { name := "ckthreeCodes", fn := fun _ => fun
  | [d1, d2, d3] => { results := [.lit (.bool true)], args := [d1, d2, d3] }
  | _ => none }
def ckthreeCodesRow : OpenClaim := { program := "ytldncgelghcjeaagreatdoor", sum := "64c8f2fc7affcd09c2f181ebe8ae84acd73214aeaa73fd24512f8f3af347f379", func := "bosun/bosunlaw19.CkthreeCodes", spec := "ckthreeCodes", inPlace := ["internal/bytealg.IndexByteString", "internal/bytealg.IndexString", "internal/abi.NoEscape"], unfollowed := true, recurses := true, named := ["internal/bytealg.MaxLen", "unicode/utf8.first", "unicode/utf8.acceptRanges"], apart := false, laid := [("unicode/utf8.acceptRanges", laid_unicode_utf8_acceptRanges), ("unicode/utf8.first", laid_unicode_utf8_first)] }
def CkthreeCodesSaid : Prop := ckthreeCodesRow.holds Tryz.pinned (OpenSpec.ofChange ckthreeCodesSpec)

/-- ITS FALSE NEIGHBOUR: 'it returns false'. Refute it at one input. -/
def ckthreeCodesWrong : ChangeSpec := { name := "ckthreeCodes", fn := fun _ => fun
  | [d1, d2, d3] => { results := [.lit (.bool false)], args := [d1, d2, d3] }
  | _ => none }
def CkthreeCodesWrongFalsely : Prop := ckthreeCodesRow.holds Tryz.pinned (OpenSpec.ofChange ckthreeCodesWrong)

/-- 'bosunlaw19.CkthreeReads': WHATEVER THE INPUT: true; the input reads as it did. -/
def ckthreeReadsSpec : ChangeSpec := { name := "ckthreeReads", fn := fun _ => fun
  | [d] => { results := [.lit (.bool true)], args := [d] }
  | _ => none }
def ckthreeReadsRow : OpenClaim := { program := "ytldncgelghcjeaagreatdoor", sum := "64c8f2fc7affcd09c2f181ebe8ae84acd73214aeaa73fd24512f8f3af347f379", func := "bosun/bosunlaw19.CkthreeReads", spec := "ckthreeReads", inPlace := ["internal/bytealg.IndexByteString", "internal/bytealg.IndexString", "internal/abi.NoEscape"], unfollowed := true, recurses := true, named := ["internal/bytealg.MaxLen", "unicode/utf8.first", "unicode/utf8.acceptRanges"], apart := false, laid := [("unicode/utf8.acceptRanges", laid_unicode_utf8_acceptRanges), ("unicode/utf8.first", laid_unicode_utf8_first)] }
def CkthreeReadsSaid : Prop := ckthreeReadsRow.holds Tryz.pinned (OpenSpec.ofChange ckthreeReadsSpec)

/-- ITS FALSE NEIGHBOUR: 'it returns false'. Refute it at one input. -/
def ckthreeReadsWrong : ChangeSpec := { name := "ckthreeReads", fn := fun _ => fun
  | [d] => { results := [.lit (.bool false)], args := [d] }
  | _ => none }
def CkthreeReadsWrongFalsely : Prop := ckthreeReadsRow.holds Tryz.pinned (OpenSpec.ofChange ckthreeReadsWrong)

/-- 'bosunlaw19.CkthreeBack': WHATEVER THE INPUT: true; the input reads as it did. -/
def ckthreeBackSpec : ChangeSpec := { name := "ckthreeBack", fn := fun _ => fun
  | [d1, d2] => { results := [.lit (.bool true)], args := [d1, d2] }
  | _ => none }
def ckthreeBackRow : OpenClaim := { program := "ytldncgelghcjeaagreatdoor", sum := "64c8f2fc7affcd09c2f181ebe8ae84acd73214aeaa73fd24512f8f3af347f379", func := "bosun/bosunlaw19.CkthreeBack", spec := "ckthreeBack", inPlace := ["internal/bytealg.IndexByteString", "internal/bytealg.IndexString", "internal/abi.NoEscape"], unfollowed := true, recurses := true, named := ["internal/bytealg.MaxLen", "unicode/utf8.first", "unicode/utf8.acceptRanges"], apart := false, laid := [("unicode/utf8.acceptRanges", laid_unicode_utf8_acceptRanges), ("unicode/utf8.first", laid_unicode_utf8_first)] }
def CkthreeBackSaid : Prop := ckthreeBackRow.holds Tryz.pinned (OpenSpec.ofChange ckthreeBackSpec)

/-- ITS FALSE NEIGHBOUR: 'it returns false'. Refute it at one input. -/
def ckthreeBackWrong : ChangeSpec := { name := "ckthreeBack", fn := fun _ => fun
  | [d1, d2] => { results := [.lit (.bool false)], args := [d1, d2] }
  | _ => none }
def CkthreeBackWrongFalsely : Prop := ckthreeBackRow.holds Tryz.pinned (OpenSpec.ofChange ckthreeBackWrong)

/-- 'bosunlaw20.UpgradeMakes': WHATEVER THE INPUT: true; the input reads as it did. -/
def upgradeMakesSpec : ChangeSpec := { name := "upgradeMakes", fn := fun _ => fun
  | [d1, d2] => { results := [.lit (.bool true)], args := [d1, d2] }
  | _ => none }
def upgradeMakesRow : OpenClaim := { program := "ytldncgelghcjeaagreatdoor", sum := "64c8f2fc7affcd09c2f181ebe8ae84acd73214aeaa73fd24512f8f3af347f379", func := "bosun/bosunlaw20.UpgradeMakes", spec := "upgradeMakes", inPlace := ["internal/bytealg.IndexByteString", "internal/bytealg.IndexString", "internal/abi.NoEscape"], unfollowed := true, recurses := true, named := ["internal/bytealg.MaxLen", "unicode/utf8.first", "unicode/utf8.acceptRanges"], apart := false, laid := [("unicode/utf8.acceptRanges", laid_unicode_utf8_acceptRanges), ("unicode/utf8.first", laid_unicode_utf8_first)] }
def UpgradeMakesSaid : Prop := upgradeMakesRow.holds Tryz.pinned (OpenSpec.ofChange upgradeMakesSpec)

/-- ITS FALSE NEIGHBOUR: 'it returns false'. Refute it at one input. -/
def upgradeMakesWrong : ChangeSpec := { name := "upgradeMakes", fn := fun _ => fun
  | [d1, d2] => { results := [.lit (.bool false)], args := [d1, d2] }
  | _ => none }
def UpgradeMakesWrongFalsely : Prop := upgradeMakesRow.holds Tryz.pinned (OpenSpec.ofChange upgradeMakesWrong)

/-- 'bosunlaw20.UpgradeDown': WHATEVER THE INPUT: true; the input reads as it did. -/
def upgradeDownSpec : ChangeSpec := { name := "upgradeDown", fn := fun _ => fun
  | [d] => { results := [.lit (.bool true)], args := [d] }
  | _ => none }
def upgradeDownRow : OpenClaim := { program := "ytldncgelghcjeaagreatdoor", sum := "64c8f2fc7affcd09c2f181ebe8ae84acd73214aeaa73fd24512f8f3af347f379", func := "bosun/bosunlaw20.UpgradeDown", spec := "upgradeDown", inPlace := ["internal/bytealg.IndexByteString", "internal/bytealg.IndexString", "internal/abi.NoEscape"], unfollowed := true, recurses := true, named := ["internal/bytealg.MaxLen", "unicode/utf8.first", "unicode/utf8.acceptRanges"], apart := false, laid := [("unicode/utf8.acceptRanges", laid_unicode_utf8_acceptRanges), ("unicode/utf8.first", laid_unicode_utf8_first)] }
def UpgradeDownSaid : Prop := upgradeDownRow.holds Tryz.pinned (OpenSpec.ofChange upgradeDownSpec)

/-- ITS FALSE NEIGHBOUR: 'it returns false'. Refute it at one input. -/
def upgradeDownWrong : ChangeSpec := { name := "upgradeDown", fn := fun _ => fun
  | [d] => { results := [.lit (.bool false)], args := [d] }
  | _ => none }
def UpgradeDownWrongFalsely : Prop := upgradeDownRow.holds Tryz.pinned (OpenSpec.ofChange upgradeDownWrong)

/-- 'bosunlaw20.UpgradeKeeps': WHATEVER THE INPUT: true; the input reads as it did. -/
def upgradeKeepsSpec : ChangeSpec := { name := "upgradeKeeps", fn := fun _ => fun
  | [d1, d2, d3] => { results := [.lit (.bool true)], args := [d1, d2, d3] }
  | _ => none }
def upgradeKeepsRow : OpenClaim := { program := "ytldncgelghcjeaagreatdoor", sum := "64c8f2fc7affcd09c2f181ebe8ae84acd73214aeaa73fd24512f8f3af347f379", func := "bosun/bosunlaw20.UpgradeKeeps", spec := "upgradeKeeps", inPlace := ["internal/bytealg.IndexByteString", "internal/bytealg.IndexString", "internal/abi.NoEscape"], unfollowed := true, recurses := true, named := ["internal/bytealg.MaxLen", "unicode/utf8.first", "unicode/utf8.acceptRanges"], apart := false, laid := [("unicode/utf8.acceptRanges", laid_unicode_utf8_acceptRanges), ("unicode/utf8.first", laid_unicode_utf8_first)] }
def UpgradeKeepsSaid : Prop := upgradeKeepsRow.holds Tryz.pinned (OpenSpec.ofChange upgradeKeepsSpec)

/-- ITS FALSE NEIGHBOUR: 'it returns false'. Refute it at one input. -/
def upgradeKeepsWrong : ChangeSpec := { name := "upgradeKeeps", fn := fun _ => fun
  | [d1, d2, d3] => { results := [.lit (.bool false)], args := [d1, d2, d3] }
  | _ => none }
def UpgradeKeepsWrongFalsely : Prop := upgradeKeepsRow.holds Tryz.pinned (OpenSpec.ofChange upgradeKeepsWrong)

/- THE SECOND FORM. 'bulk': how many values and letters a reading holds, each counted each time it is reached (what is shared counts as often as it is met; a slice's spare places count too). A statement '..UptoSaid' is the law's where the arguments, and the package variables that the reading takes, are together of bulk at most 1048576: NARROWER than '..Said'. Prove '..Said' where nothing that the law and all that it calls make is longer than what came in: it says more and counts as full. Else prove '..UptoSaid'. A law counts once. -/
mutual
def uptoBulk {H : Type} : DataW H → Nat
  | .lit (.string bytes) => bytes.length + 1
  | .lit _ => 1
  | .nil => 1
  | .ptr d => uptoBulk d + 1
  | .slice elems spare => uptoBulkAll elems + uptoBulkAll spare + 1
  | .agg parts => uptoBulkAll parts + 1
  | .iface _ d => uptoBulk d + 1
  | .map entries => uptoBulkEntries entries + 1
  | .held _ => 1
def uptoBulkAll {H : Type} : List (DataW H) → Nat
  | [] => 0
  | d :: r => uptoBulk d + uptoBulkAll r
def uptoBulkEntries {H : Type} : List (Lit × DataW H) → Nat
  | [] => 0
  | x :: r => uptoBulkEntry x + uptoBulkEntries r
def uptoBulkEntry {H : Type} : Lit × DataW H → Nat
  | (.string bytes, d) => bytes.length + uptoBulk d + 1
  | (_, d) => uptoBulk d + 1
 end
def uptoSmall : (H : Type) → List (DataW H) → Bool := fun _ ds => decide (uptoBulkAll ds ≤ 1048576)
def OpenSpec.upto (s : _root_.Go.ChangeSpec) : _root_.Go.OpenSpec := { _root_.Go.OpenSpec.ofChange s with cond := some uptoSmall }

/-- 'bosunlaw19.CkthreeCodes', WHERE WHAT IT READS IS OF BULK AT MOST 1048576: true; the input reads as it did. -/
def ckthreeCodesUptoRow : OpenClaim := { program := "ytldncgelghcjeaagreatdoor", sum := "64c8f2fc7affcd09c2f181ebe8ae84acd73214aeaa73fd24512f8f3af347f379", func := "bosun/bosunlaw19.CkthreeCodes", spec := "ckthreeCodes", inPlace := ["internal/bytealg.IndexByteString", "internal/bytealg.IndexString", "internal/abi.NoEscape"], unfollowed := true, recurses := true, named := ["internal/bytealg.MaxLen", "unicode/utf8.first", "unicode/utf8.acceptRanges"], apart := false, laid := [("unicode/utf8.acceptRanges", laid_unicode_utf8_acceptRanges), ("unicode/utf8.first", laid_unicode_utf8_first)], narrowed := true }
def CkthreeCodesUptoSaid : Prop := ckthreeCodesUptoRow.holds Tryz.pinned (OpenSpec.upto ckthreeCodesSpec)

/-- 'bosunlaw19.CkthreeReads', WHERE WHAT IT READS IS OF BULK AT MOST 1048576: true; the input reads as it did. -/
def ckthreeReadsUptoRow : OpenClaim := { program := "ytldncgelghcjeaagreatdoor", sum := "64c8f2fc7affcd09c2f181ebe8ae84acd73214aeaa73fd24512f8f3af347f379", func := "bosun/bosunlaw19.CkthreeReads", spec := "ckthreeReads", inPlace := ["internal/bytealg.IndexByteString", "internal/bytealg.IndexString", "internal/abi.NoEscape"], unfollowed := true, recurses := true, named := ["internal/bytealg.MaxLen", "unicode/utf8.first", "unicode/utf8.acceptRanges"], apart := false, laid := [("unicode/utf8.acceptRanges", laid_unicode_utf8_acceptRanges), ("unicode/utf8.first", laid_unicode_utf8_first)], narrowed := true }
def CkthreeReadsUptoSaid : Prop := ckthreeReadsUptoRow.holds Tryz.pinned (OpenSpec.upto ckthreeReadsSpec)

/-- 'bosunlaw19.CkthreeBack', WHERE WHAT IT READS IS OF BULK AT MOST 1048576: true; the input reads as it did. -/
def ckthreeBackUptoRow : OpenClaim := { program := "ytldncgelghcjeaagreatdoor", sum := "64c8f2fc7affcd09c2f181ebe8ae84acd73214aeaa73fd24512f8f3af347f379", func := "bosun/bosunlaw19.CkthreeBack", spec := "ckthreeBack", inPlace := ["internal/bytealg.IndexByteString", "internal/bytealg.IndexString", "internal/abi.NoEscape"], unfollowed := true, recurses := true, named := ["internal/bytealg.MaxLen", "unicode/utf8.first", "unicode/utf8.acceptRanges"], apart := false, laid := [("unicode/utf8.acceptRanges", laid_unicode_utf8_acceptRanges), ("unicode/utf8.first", laid_unicode_utf8_first)], narrowed := true }
def CkthreeBackUptoSaid : Prop := ckthreeBackUptoRow.holds Tryz.pinned (OpenSpec.upto ckthreeBackSpec)

/-- 'bosunlaw20.UpgradeMakes', WHERE WHAT IT READS IS OF BULK AT MOST 1048576: true; the input reads as it did. -/
def upgradeMakesUptoRow : OpenClaim := { program := "ytldncgelghcjeaagreatdoor", sum := "64c8f2fc7affcd09c2f181ebe8ae84acd73214aeaa73fd24512f8f3af347f379", func := "bosun/bosunlaw20.UpgradeMakes", spec := "upgradeMakes", inPlace := ["internal/bytealg.IndexByteString", "internal/bytealg.IndexString", "internal/abi.NoEscape"], unfollowed := true, recurses := true, named := ["internal/bytealg.MaxLen", "unicode/utf8.first", "unicode/utf8.acceptRanges"], apart := false, laid := [("unicode/utf8.acceptRanges", laid_unicode_utf8_acceptRanges), ("unicode/utf8.first", laid_unicode_utf8_first)], narrowed := true }
def UpgradeMakesUptoSaid : Prop := upgradeMakesUptoRow.holds Tryz.pinned (OpenSpec.upto upgradeMakesSpec)

/-- 'bosunlaw20.UpgradeDown', WHERE WHAT IT READS IS OF BULK AT MOST 1048576: true; the input reads as it did. -/
def upgradeDownUptoRow : OpenClaim := { program := "ytldncgelghcjeaagreatdoor", sum := "64c8f2fc7affcd09c2f181ebe8ae84acd73214aeaa73fd24512f8f3af347f379", func := "bosun/bosunlaw20.UpgradeDown", spec := "upgradeDown", inPlace := ["internal/bytealg.IndexByteString", "internal/bytealg.IndexString", "internal/abi.NoEscape"], unfollowed := true, recurses := true, named := ["internal/bytealg.MaxLen", "unicode/utf8.first", "unicode/utf8.acceptRanges"], apart := false, laid := [("unicode/utf8.acceptRanges", laid_unicode_utf8_acceptRanges), ("unicode/utf8.first", laid_unicode_utf8_first)], narrowed := true }
def UpgradeDownUptoSaid : Prop := upgradeDownUptoRow.holds Tryz.pinned (OpenSpec.upto upgradeDownSpec)

/-- 'bosunlaw20.UpgradeKeeps', WHERE WHAT IT READS IS OF BULK AT MOST 1048576: true; the input reads as it did. -/
def upgradeKeepsUptoRow : OpenClaim := { program := "ytldncgelghcjeaagreatdoor", sum := "64c8f2fc7affcd09c2f181ebe8ae84acd73214aeaa73fd24512f8f3af347f379", func := "bosun/bosunlaw20.UpgradeKeeps", spec := "upgradeKeeps", inPlace := ["internal/bytealg.IndexByteString", "internal/bytealg.IndexString", "internal/abi.NoEscape"], unfollowed := true, recurses := true, named := ["internal/bytealg.MaxLen", "unicode/utf8.first", "unicode/utf8.acceptRanges"], apart := false, laid := [("unicode/utf8.acceptRanges", laid_unicode_utf8_acceptRanges), ("unicode/utf8.first", laid_unicode_utf8_first)], narrowed := true }
def UpgradeKeepsUptoSaid : Prop := upgradeKeepsUptoRow.holds Tryz.pinned (OpenSpec.upto upgradeKeepsSpec)

end Rows
end Go.Proofs.YtldncgelghcjeaaGreatDoor
