/-
  NARROWER THAN 'FOR EVERY INPUT', by the rows' own cells (each row's printed sentence says how): SpecChecks: laid · SpecWords: laid · SpecDefaults: laid.
  DERIVED. THE GIVEN ROWS OF THIS SEAT. 3 by the template 'for every input the law returns true; each argument reads behind the call as it read before'; 0 by the template 'total and deterministic' (their statements: YtfhhmajkacjbgaaDoorTotals.lean).
  GIVEN WITH THE SEED: the statements are not yours to turn. If you find one false, say at which input.
  Laid BY PROGRAM, IN A SANDBOX (cutbox-rows.mjs): the forced cells as the released guide's own fill.sh prints them over the translation 4e5711f01e09ff71… (all of the seat's roots in one cut). By AI agents, Wed Nov 11 2026. No macro, syntax, notation, axiom, sorry.
-/
import Derived.Test.YtfhhmajkacjbgaaDoorChecked
import GoSem.PinnedTables
import GoSem.Claim
import GoSem.ClaimJoined
import GoSem.ClaimMapViews
import Derived.JoinedTies
import Derived.KernelRfl
namespace Go.Proofs.YtfhhmajkacjbgaaDoor
/- THE CELL 'sum', in the pinned program and in every row, IS THE sha256 OF THE DUMP (.gsa) THAT YtfhhmajkacjbgaaDoorProg.lean LOADS. Nothing in Lean hashes anything: it is a label: what it is worth is what the hold of that sum in a sandbox is worth. -/
noncomputable def Tryd.pinned : Pinned := { name := "ytfhhmajkacjbgaadoor", sum := "4e5711f01e09ff71fe841ddd1e7579793576d8496b4e83e473a908512aeb33a4", checked := Tryd.checked }
namespace Rows
def none {H : Type} : Left H := { results := [], args := [] }

/- WHAT THE LISTED PACKAGE-LEVEL VARIABLES READ AS WHEN THE CALL BEGINS. Each datum BY PROGRAM (the guide's laid-datum.mjs) off the statement by which the dump's own 'gosem.cut.vars' lays the variable. In a bare row this is a premise. The card (YtfhhmajkacjbgaaDoorCards.lean) ties it to the program's text. -/
def laid_unicode_utf8_acceptRanges {H : Type} : DataW H := .agg [.agg [.lit (.int .u8 128), .lit (.int .u8 191)], .agg [.lit (.int .u8 160), .lit (.int .u8 191)], .agg [.lit (.int .u8 128), .lit (.int .u8 159)], .agg [.lit (.int .u8 144), .lit (.int .u8 191)], .agg [.lit (.int .u8 128), .lit (.int .u8 143)], .agg [.lit (.int .u8 0), .lit (.int .u8 0)], .agg [.lit (.int .u8 0), .lit (.int .u8 0)], .agg [.lit (.int .u8 0), .lit (.int .u8 0)], .agg [.lit (.int .u8 0), .lit (.int .u8 0)], .agg [.lit (.int .u8 0), .lit (.int .u8 0)], .agg [.lit (.int .u8 0), .lit (.int .u8 0)], .agg [.lit (.int .u8 0), .lit (.int .u8 0)], .agg [.lit (.int .u8 0), .lit (.int .u8 0)], .agg [.lit (.int .u8 0), .lit (.int .u8 0)], .agg [.lit (.int .u8 0), .lit (.int .u8 0)], .agg [.lit (.int .u8 0), .lit (.int .u8 0)]]
/-- One of Go's own tables, pinned by name: the form's constant. -/
def laid_unicode_utf8_first : DataW Unit := Go.Pinned.utf8First
def laid_bosun_spec_restartWords {H : Type} : DataW H := .agg [.lit (.string [97, 108, 119, 97, 121, 115]), .lit (.string [111, 110, 45, 102, 97, 105, 108, 117, 114, 101]), .lit (.string [110, 101, 118, 101, 114])]
def laid_bosun_spec_protoWords {H : Type} : DataW H := .agg [.lit (.string [116, 99, 112]), .lit (.string [117, 100, 112])]

/-- 'bosunlaw14.SpecChecks': WHATEVER THE INPUT: true; the input reads as it did. -/
def specChecksSpec : ChangeSpec := { name := "specChecks", fn := fun _ => fun
  | [d1, d2] => { results := [.lit (.bool true)], args := [d1, d2] }
  | _ => none }
def specChecksRow : OpenClaim := { program := "ytfhhmajkacjbgaadoor", sum := "4e5711f01e09ff71fe841ddd1e7579793576d8496b4e83e473a908512aeb33a4", func := "bosun/bosunlaw14.SpecChecks", spec := "specChecks", inPlace := ["internal/bytealg.IndexByteString", "internal/bytealg.IndexString"], unfollowed := true, recurses := true, named := ["unicode/utf8.first", "unicode/utf8.acceptRanges", "internal/bytealg.MaxLen"], apart := false, laid := [("unicode/utf8.acceptRanges", laid_unicode_utf8_acceptRanges), ("unicode/utf8.first", laid_unicode_utf8_first)] }
def SpecChecksSaid : Prop := specChecksRow.holds Tryd.pinned (OpenSpec.ofChange specChecksSpec)

/-- ITS FALSE NEIGHBOUR: 'it returns false'. Refute it at one input. -/
def specChecksWrong : ChangeSpec := { name := "specChecks", fn := fun _ => fun
  | [d1, d2] => { results := [.lit (.bool false)], args := [d1, d2] }
  | _ => none }
def SpecChecksWrongFalsely : Prop := specChecksRow.holds Tryd.pinned (OpenSpec.ofChange specChecksWrong)

/-- 'bosunlaw14.SpecWords': WHATEVER THE INPUT: true; the input reads as it did. -/
def specWordsSpec : ChangeSpec := { name := "specWords", fn := fun _ => fun
  | [d1, d2] => { results := [.lit (.bool true)], args := [d1, d2] }
  | _ => none }
def specWordsRow : OpenClaim := { program := "ytfhhmajkacjbgaadoor", sum := "4e5711f01e09ff71fe841ddd1e7579793576d8496b4e83e473a908512aeb33a4", func := "bosun/bosunlaw14.SpecWords", spec := "specWords", inPlace := ["internal/bytealg.IndexByteString", "internal/bytealg.IndexString"], unfollowed := true, recurses := true, named := ["unicode/utf8.first", "unicode/utf8.acceptRanges", "internal/bytealg.MaxLen", "bosun/spec.restartWords", "bosun/spec.protoWords"], apart := false, laid := [("unicode/utf8.acceptRanges", laid_unicode_utf8_acceptRanges), ("bosun/spec.restartWords", laid_bosun_spec_restartWords), ("bosun/spec.protoWords", laid_bosun_spec_protoWords), ("unicode/utf8.first", laid_unicode_utf8_first)] }
def SpecWordsSaid : Prop := specWordsRow.holds Tryd.pinned (OpenSpec.ofChange specWordsSpec)

/-- ITS FALSE NEIGHBOUR: 'it returns false'. Refute it at one input. -/
def specWordsWrong : ChangeSpec := { name := "specWords", fn := fun _ => fun
  | [d1, d2] => { results := [.lit (.bool false)], args := [d1, d2] }
  | _ => none }
def SpecWordsWrongFalsely : Prop := specWordsRow.holds Tryd.pinned (OpenSpec.ofChange specWordsWrong)

/-- 'bosunlaw14.SpecDefaults': WHATEVER THE INPUT: true; the input reads as it did. -/
def specDefaultsSpec : ChangeSpec := { name := "specDefaults", fn := fun _ => fun
  | [d] => { results := [.lit (.bool true)], args := [d] }
  | _ => none }
def specDefaultsRow : OpenClaim := { program := "ytfhhmajkacjbgaadoor", sum := "4e5711f01e09ff71fe841ddd1e7579793576d8496b4e83e473a908512aeb33a4", func := "bosun/bosunlaw14.SpecDefaults", spec := "specDefaults", inPlace := ["internal/bytealg.IndexByteString", "internal/bytealg.IndexString"], unfollowed := true, recurses := true, named := ["unicode/utf8.first", "unicode/utf8.acceptRanges", "internal/bytealg.MaxLen"], apart := false, laid := [("unicode/utf8.acceptRanges", laid_unicode_utf8_acceptRanges), ("unicode/utf8.first", laid_unicode_utf8_first)] }
def SpecDefaultsSaid : Prop := specDefaultsRow.holds Tryd.pinned (OpenSpec.ofChange specDefaultsSpec)

/-- ITS FALSE NEIGHBOUR: 'it returns false'. Refute it at one input. -/
def specDefaultsWrong : ChangeSpec := { name := "specDefaults", fn := fun _ => fun
  | [d] => { results := [.lit (.bool false)], args := [d] }
  | _ => none }
def SpecDefaultsWrongFalsely : Prop := specDefaultsRow.holds Tryd.pinned (OpenSpec.ofChange specDefaultsWrong)

/- THE SECOND FORM. 'bulk': how many values and letters a reading holds, each counted each time it is reached (what is shared counts as often as it is met; a slice's spare places count too). A statement '..UptoSaid' is the law's where the arguments, and the package variables that the reading takes, are together of bulk at most 1048576: NARROWER than '..Said'. Prove '..Said' where nothing that the law and all that it calls make is longer than what came in: it says more and counts as full. Else prove '..UptoSaid'. A law counts once. -/
mutual
def uptoBulk {H : Type} : DataW H → Nat
  | .lit (.string bytes) => bytes.length + 1
  | .lit _ => 1
  | .nil => 1
  | .ptr d => uptoBulk d + 1
  | .slice elems spare => uptoBulkAll elems + uptoBulkAll spare + 1
  | .agg parts => uptoBulkAll parts + 1
  | .iface _ d => uptoBulk d + 1
  | .map entries => uptoBulkEntries entries + 1
  | .held _ => 1
def uptoBulkAll {H : Type} : List (DataW H) → Nat
  | [] => 0
  | d :: r => uptoBulk d + uptoBulkAll r
def uptoBulkEntries {H : Type} : List (Lit × DataW H) → Nat
  | [] => 0
  | x :: r => uptoBulkEntry x + uptoBulkEntries r
def uptoBulkEntry {H : Type} : Lit × DataW H → Nat
  | (.string bytes, d) => bytes.length + uptoBulk d + 1
  | (_, d) => uptoBulk d + 1
 end
def uptoSmall : (H : Type) → List (DataW H) → Bool := fun _ ds => decide (uptoBulkAll ds ≤ 1048576)
def OpenSpec.upto (s : _root_.Go.ChangeSpec) : _root_.Go.OpenSpec := { _root_.Go.OpenSpec.ofChange s with cond := some uptoSmall }

/-- 'bosunlaw14.SpecChecks', WHERE WHAT IT READS IS OF BULK AT MOST 1048576: true; the input reads as it did. -/
def specChecksUptoRow : OpenClaim := { program := "ytfhhmajkacjbgaadoor", sum := "4e5711f01e09ff71fe841ddd1e7579793576d8496b4e83e473a908512aeb33a4", func := "bosun/bosunlaw14.SpecChecks", spec := "specChecks", inPlace := ["internal/bytealg.IndexByteString", "internal/bytealg.IndexString"], unfollowed := true, recurses := true, named := ["unicode/utf8.first", "unicode/utf8.acceptRanges", "internal/bytealg.MaxLen"], apart := false, laid := [("unicode/utf8.acceptRanges", laid_unicode_utf8_acceptRanges), ("unicode/utf8.first", laid_unicode_utf8_first)], narrowed := true }
def SpecChecksUptoSaid : Prop := specChecksUptoRow.holds Tryd.pinned (OpenSpec.upto specChecksSpec)

/-- 'bosunlaw14.SpecWords', WHERE WHAT IT READS IS OF BULK AT MOST 1048576: true; the input reads as it did. -/
def specWordsUptoRow : OpenClaim := { program := "ytfhhmajkacjbgaadoor", sum := "4e5711f01e09ff71fe841ddd1e7579793576d8496b4e83e473a908512aeb33a4", func := "bosun/bosunlaw14.SpecWords", spec := "specWords", inPlace := ["internal/bytealg.IndexByteString", "internal/bytealg.IndexString"], unfollowed := true, recurses := true, named := ["unicode/utf8.first", "unicode/utf8.acceptRanges", "internal/bytealg.MaxLen", "bosun/spec.restartWords", "bosun/spec.protoWords"], apart := false, laid := [("unicode/utf8.acceptRanges", laid_unicode_utf8_acceptRanges), ("bosun/spec.restartWords", laid_bosun_spec_restartWords), ("bosun/spec.protoWords", laid_bosun_spec_protoWords), ("unicode/utf8.first", laid_unicode_utf8_first)], narrowed := true }
def SpecWordsUptoSaid : Prop := specWordsUptoRow.holds Tryd.pinned (OpenSpec.upto specWordsSpec)

/-- 'bosunlaw14.SpecDefaults', WHERE WHAT IT READS IS OF BULK AT MOST 1048576: true; the input reads as it did. -/
def specDefaultsUptoRow : OpenClaim := { program := "ytfhhmajkacjbgaadoor", sum := "4e5711f01e09ff71fe841ddd1e7579793576d8496b4e83e473a908512aeb33a4", func := "bosun/bosunlaw14.SpecDefaults", spec := "specDefaults", inPlace := ["internal/bytealg.IndexByteString", "internal/bytealg.IndexString"], unfollowed := true, recurses := true, named := ["unicode/utf8.first", "unicode/utf8.acceptRanges", "internal/bytealg.MaxLen"], apart := false, laid := [("unicode/utf8.acceptRanges", laid_unicode_utf8_acceptRanges), ("unicode/utf8.first", laid_unicode_utf8_first)], narrowed := true }
def SpecDefaultsUptoSaid : Prop := specDefaultsUptoRow.holds Tryd.pinned (OpenSpec.upto specDefaultsSpec)

end Rows
end Go.Proofs.YtfhhmajkacjbgaaDoor
