/-
  No cell of these rows narrows 'for every input' (looked for: loops, veiled, ifaces, maps, wideKeys, modest, calm, conditions, laid).
  DERIVED. THE GIVEN ROWS OF THIS SEAT. 6 by the template 'for every input the law returns true; each argument reads behind the call as it read before'; 0 by the template 'total and deterministic' (their statements: YtphjhlnjfcfdcaaTotals.lean).
  GIVEN WITH THE SEED: the statements are not yours to turn. If you find one false, say at which input.
  Laid BY PROGRAM, IN A SANDBOX (cutbox-rows.mjs): the forced cells as the released guide's own fill.sh prints them over the translation b334e440a92cc075… (all of the seat's roots in one cut). By AI agents, Wed Nov 11 2026. No macro, syntax, notation, axiom, sorry.
-/
import Derived.Test.YtphjhlnjfcfdcaaChecked
import GoSem.Claim
import GoSem.ClaimJoined
import GoSem.ClaimMapViews
import Derived.JoinedTies
import Derived.KernelRfl
namespace Go.Proofs.Ytphjhlnjfcfdcaa
/- THE CELL 'sum', in the pinned program and in every row, IS THE sha256 OF THE DUMP (.gsa) THAT YtphjhlnjfcfdcaaProg.lean LOADS. Nothing in Lean hashes anything: it is a label: what it is worth is what the hold of that sum in a sandbox is worth. -/
noncomputable def Try.pinned : Pinned := { name := "ytphjhlnjfcfdcaa", sum := "b334e440a92cc0753f727531ed04abb6d2bc2635ea0ae97a948d9e6a1bf4279a", checked := Try.checked }
namespace Rows
def none {H : Type} : Left H := { results := [], args := [] }

/-- 'bosunlaw17.CkoneCodes': WHATEVER THE INPUT: true; the input reads as it did. -/
def ckoneCodesSpec : ChangeSpec := { name := "ckoneCodes", fn := fun _ => fun
  | [d1, d2, d3] => { results := [.lit (.bool true)], args := [d1, d2, d3] }
  | _ => none }
def ckoneCodesRow : OpenClaim := { program := "ytphjhlnjfcfdcaa", sum := "b334e440a92cc0753f727531ed04abb6d2bc2635ea0ae97a948d9e6a1bf4279a", func := "bosun/bosunlaw17.CkoneCodes", spec := "ckoneCodes", inPlace := ["internal/bytealg.IndexByteString", "internal/bytealg.IndexString", "internal/abi.NoEscape"], unfollowed := true, recurses := true, named := ["internal/bytealg.MaxLen"], apart := false }
def CkoneCodesSaid : Prop := ckoneCodesRow.holds Try.pinned (OpenSpec.ofChange ckoneCodesSpec)

/-- ITS FALSE NEIGHBOUR: 'it returns false'. Refute it at one input. -/
def ckoneCodesWrong : ChangeSpec := { name := "ckoneCodes", fn := fun _ => fun
  | [d1, d2, d3] => { results := [.lit (.bool false)], args := [d1, d2, d3] }
  | _ => none }
def CkoneCodesWrongFalsely : Prop := ckoneCodesRow.holds Try.pinned (OpenSpec.ofChange ckoneCodesWrong)

/-- 'bosunlaw17.CkoneReads': WHATEVER THE INPUT: true; the input reads as it did. -/
def ckoneReadsSpec : ChangeSpec := { name := "ckoneReads", fn := fun _ => fun
  | [d] => { results := [.lit (.bool true)], args := [d] }
  | _ => none }
def ckoneReadsRow : OpenClaim := { program := "ytphjhlnjfcfdcaa", sum := "b334e440a92cc0753f727531ed04abb6d2bc2635ea0ae97a948d9e6a1bf4279a", func := "bosun/bosunlaw17.CkoneReads", spec := "ckoneReads", inPlace := ["internal/bytealg.IndexByteString", "internal/bytealg.IndexString", "internal/abi.NoEscape"], unfollowed := true, recurses := true, named := ["internal/bytealg.MaxLen"], apart := false }
def CkoneReadsSaid : Prop := ckoneReadsRow.holds Try.pinned (OpenSpec.ofChange ckoneReadsSpec)

/-- ITS FALSE NEIGHBOUR: 'it returns false'. Refute it at one input. -/
def ckoneReadsWrong : ChangeSpec := { name := "ckoneReads", fn := fun _ => fun
  | [d] => { results := [.lit (.bool false)], args := [d] }
  | _ => none }
def CkoneReadsWrongFalsely : Prop := ckoneReadsRow.holds Try.pinned (OpenSpec.ofChange ckoneReadsWrong)

/-- 'bosunlaw17.CkoneBack': WHATEVER THE INPUT: true; the input reads as it did. -/
def ckoneBackSpec : ChangeSpec := { name := "ckoneBack", fn := fun _ => fun
  | [d1, d2] => { results := [.lit (.bool true)], args := [d1, d2] }
  | _ => none }
def ckoneBackRow : OpenClaim := { program := "ytphjhlnjfcfdcaa", sum := "b334e440a92cc0753f727531ed04abb6d2bc2635ea0ae97a948d9e6a1bf4279a", func := "bosun/bosunlaw17.CkoneBack", spec := "ckoneBack", inPlace := ["internal/bytealg.IndexByteString", "internal/bytealg.IndexString", "internal/abi.NoEscape"], unfollowed := true, recurses := true, named := ["internal/bytealg.MaxLen"], apart := false }
def CkoneBackSaid : Prop := ckoneBackRow.holds Try.pinned (OpenSpec.ofChange ckoneBackSpec)

/-- ITS FALSE NEIGHBOUR: 'it returns false'. Refute it at one input. -/
def ckoneBackWrong : ChangeSpec := { name := "ckoneBack", fn := fun _ => fun
  | [d1, d2] => { results := [.lit (.bool false)], args := [d1, d2] }
  | _ => none }
def CkoneBackWrongFalsely : Prop := ckoneBackRow.holds Try.pinned (OpenSpec.ofChange ckoneBackWrong)

/-- 'bosunlaw18.CktwoCodes': WHATEVER THE INPUT: true; the input reads as it did. -/
def cktwoCodesSpec : ChangeSpec := { name := "cktwoCodes", fn := fun _ => fun
  | [d1, d2] => { results := [.lit (.bool true)], args := [d1, d2] }
  | _ => none }
def cktwoCodesRow : OpenClaim := { program := "ytphjhlnjfcfdcaa", sum := "b334e440a92cc0753f727531ed04abb6d2bc2635ea0ae97a948d9e6a1bf4279a", func := "bosun/bosunlaw18.CktwoCodes", spec := "cktwoCodes", inPlace := ["internal/bytealg.IndexByteString", "internal/bytealg.IndexString", "internal/abi.NoEscape"], unfollowed := true, recurses := true, named := ["internal/bytealg.MaxLen"], apart := false }
def CktwoCodesSaid : Prop := cktwoCodesRow.holds Try.pinned (OpenSpec.ofChange cktwoCodesSpec)

/-- ITS FALSE NEIGHBOUR: 'it returns false'. Refute it at one input. -/
def cktwoCodesWrong : ChangeSpec := { name := "cktwoCodes", fn := fun _ => fun
  | [d1, d2] => { results := [.lit (.bool false)], args := [d1, d2] }
  | _ => none }
def CktwoCodesWrongFalsely : Prop := cktwoCodesRow.holds Try.pinned (OpenSpec.ofChange cktwoCodesWrong)

/-- 'bosunlaw18.CktwoReads': WHATEVER THE INPUT: true; the input reads as it did. -/
def cktwoReadsSpec : ChangeSpec := { name := "cktwoReads", fn := fun _ => fun
  | [d] => { results := [.lit (.bool true)], args := [d] }
  | _ => none }
def cktwoReadsRow : OpenClaim := { program := "ytphjhlnjfcfdcaa", sum := "b334e440a92cc0753f727531ed04abb6d2bc2635ea0ae97a948d9e6a1bf4279a", func := "bosun/bosunlaw18.CktwoReads", spec := "cktwoReads", inPlace := ["internal/bytealg.IndexByteString", "internal/bytealg.IndexString", "internal/abi.NoEscape"], unfollowed := true, recurses := true, named := ["internal/bytealg.MaxLen"], apart := false }
def CktwoReadsSaid : Prop := cktwoReadsRow.holds Try.pinned (OpenSpec.ofChange cktwoReadsSpec)

/-- ITS FALSE NEIGHBOUR: 'it returns false'. Refute it at one input. -/
def cktwoReadsWrong : ChangeSpec := { name := "cktwoReads", fn := fun _ => fun
  | [d] => { results := [.lit (.bool false)], args := [d] }
  | _ => none }
def CktwoReadsWrongFalsely : Prop := cktwoReadsRow.holds Try.pinned (OpenSpec.ofChange cktwoReadsWrong)

/-- 'bosunlaw18.CktwoBack': WHATEVER THE INPUT: true; the input reads as it did. -/
def cktwoBackSpec : ChangeSpec := { name := "cktwoBack", fn := fun _ => fun
  | [d1, d2] => { results := [.lit (.bool true)], args := [d1, d2] }
  | _ => none }
def cktwoBackRow : OpenClaim := { program := "ytphjhlnjfcfdcaa", sum := "b334e440a92cc0753f727531ed04abb6d2bc2635ea0ae97a948d9e6a1bf4279a", func := "bosun/bosunlaw18.CktwoBack", spec := "cktwoBack", inPlace := ["internal/bytealg.IndexByteString", "internal/bytealg.IndexString", "internal/abi.NoEscape"], unfollowed := true, recurses := true, named := ["internal/bytealg.MaxLen"], apart := false }
def CktwoBackSaid : Prop := cktwoBackRow.holds Try.pinned (OpenSpec.ofChange cktwoBackSpec)

/-- ITS FALSE NEIGHBOUR: 'it returns false'. Refute it at one input. -/
def cktwoBackWrong : ChangeSpec := { name := "cktwoBack", fn := fun _ => fun
  | [d1, d2] => { results := [.lit (.bool false)], args := [d1, d2] }
  | _ => none }
def CktwoBackWrongFalsely : Prop := cktwoBackRow.holds Try.pinned (OpenSpec.ofChange cktwoBackWrong)

/- THE SECOND FORM. 'bulk': how many values and letters a reading holds, each counted each time it is reached (what is shared counts as often as it is met; a slice's spare places count too). A statement '..UptoSaid' is the law's where the arguments, and the package variables that the reading takes, are together of bulk at most 1048576: NARROWER than '..Said'. Prove '..Said' where nothing that the law and all that it calls make is longer than what came in: it says more and counts as full. Else prove '..UptoSaid'. A law counts once. -/
mutual
def uptoBulk {H : Type} : DataW H → Nat
  | .lit (.string bytes) => bytes.length + 1
  | .lit _ => 1
  | .nil => 1
  | .ptr d => uptoBulk d + 1
  | .slice elems spare => uptoBulkAll elems + uptoBulkAll spare + 1
  | .agg parts => uptoBulkAll parts + 1
  | .iface _ d => uptoBulk d + 1
  | .map entries => uptoBulkEntries entries + 1
  | .held _ => 1
def uptoBulkAll {H : Type} : List (DataW H) → Nat
  | [] => 0
  | d :: r => uptoBulk d + uptoBulkAll r
def uptoBulkEntries {H : Type} : List (Lit × DataW H) → Nat
  | [] => 0
  | x :: r => uptoBulkEntry x + uptoBulkEntries r
def uptoBulkEntry {H : Type} : Lit × DataW H → Nat
  | (.string bytes, d) => bytes.length + uptoBulk d + 1
  | (_, d) => uptoBulk d + 1
 end
def uptoSmall : (H : Type) → List (DataW H) → Bool := fun _ ds => decide (uptoBulkAll ds ≤ 1048576)
def OpenSpec.upto (s : _root_.Go.ChangeSpec) : _root_.Go.OpenSpec := { _root_.Go.OpenSpec.ofChange s with cond := some uptoSmall }

/-- 'bosunlaw17.CkoneCodes', WHERE WHAT IT READS IS OF BULK AT MOST 1048576: true; the input reads as it did. -/
def ckoneCodesUptoRow : OpenClaim := { program := "ytphjhlnjfcfdcaa", sum := "b334e440a92cc0753f727531ed04abb6d2bc2635ea0ae97a948d9e6a1bf4279a", func := "bosun/bosunlaw17.CkoneCodes", spec := "ckoneCodes", inPlace := ["internal/bytealg.IndexByteString", "internal/bytealg.IndexString", "internal/abi.NoEscape"], unfollowed := true, recurses := true, named := ["internal/bytealg.MaxLen"], apart := false, narrowed := true }
def CkoneCodesUptoSaid : Prop := ckoneCodesUptoRow.holds Try.pinned (OpenSpec.upto ckoneCodesSpec)

/-- 'bosunlaw17.CkoneReads', WHERE WHAT IT READS IS OF BULK AT MOST 1048576: true; the input reads as it did. -/
def ckoneReadsUptoRow : OpenClaim := { program := "ytphjhlnjfcfdcaa", sum := "b334e440a92cc0753f727531ed04abb6d2bc2635ea0ae97a948d9e6a1bf4279a", func := "bosun/bosunlaw17.CkoneReads", spec := "ckoneReads", inPlace := ["internal/bytealg.IndexByteString", "internal/bytealg.IndexString", "internal/abi.NoEscape"], unfollowed := true, recurses := true, named := ["internal/bytealg.MaxLen"], apart := false, narrowed := true }
def CkoneReadsUptoSaid : Prop := ckoneReadsUptoRow.holds Try.pinned (OpenSpec.upto ckoneReadsSpec)

/-- 'bosunlaw17.CkoneBack', WHERE WHAT IT READS IS OF BULK AT MOST 1048576: true; the input reads as it did. -/
def ckoneBackUptoRow : OpenClaim := { program := "ytphjhlnjfcfdcaa", sum := "b334e440a92cc0753f727531ed04abb6d2bc2635ea0ae97a948d9e6a1bf4279a", func := "bosun/bosunlaw17.CkoneBack", spec := "ckoneBack", inPlace := ["internal/bytealg.IndexByteString", "internal/bytealg.IndexString", "internal/abi.NoEscape"], unfollowed := true, recurses := true, named := ["internal/bytealg.MaxLen"], apart := false, narrowed := true }
def CkoneBackUptoSaid : Prop := ckoneBackUptoRow.holds Try.pinned (OpenSpec.upto ckoneBackSpec)

/-- 'bosunlaw18.CktwoCodes', WHERE WHAT IT READS IS OF BULK AT MOST 1048576: true; the input reads as it did. -/
def cktwoCodesUptoRow : OpenClaim := { program := "ytphjhlnjfcfdcaa", sum := "b334e440a92cc0753f727531ed04abb6d2bc2635ea0ae97a948d9e6a1bf4279a", func := "bosun/bosunlaw18.CktwoCodes", spec := "cktwoCodes", inPlace := ["internal/bytealg.IndexByteString", "internal/bytealg.IndexString", "internal/abi.NoEscape"], unfollowed := true, recurses := true, named := ["internal/bytealg.MaxLen"], apart := false, narrowed := true }
def CktwoCodesUptoSaid : Prop := cktwoCodesUptoRow.holds Try.pinned (OpenSpec.upto cktwoCodesSpec)

/-- 'bosunlaw18.CktwoReads', WHERE WHAT IT READS IS OF BULK AT MOST 1048576: true; the input reads as it did. -/
def cktwoReadsUptoRow : OpenClaim := { program := "ytphjhlnjfcfdcaa", sum := "b334e440a92cc0753f727531ed04abb6d2bc2635ea0ae97a948d9e6a1bf4279a", func := "bosun/bosunlaw18.CktwoReads", spec := "cktwoReads", inPlace := ["internal/bytealg.IndexByteString", "internal/bytealg.IndexString", "internal/abi.NoEscape"], unfollowed := true, recurses := true, named := ["internal/bytealg.MaxLen"], apart := false, narrowed := true }
def CktwoReadsUptoSaid : Prop := cktwoReadsUptoRow.holds Try.pinned (OpenSpec.upto cktwoReadsSpec)

/-- 'bosunlaw18.CktwoBack', WHERE WHAT IT READS IS OF BULK AT MOST 1048576: true; the input reads as it did. -/
def cktwoBackUptoRow : OpenClaim := { program := "ytphjhlnjfcfdcaa", sum := "b334e440a92cc0753f727531ed04abb6d2bc2635ea0ae97a948d9e6a1bf4279a", func := "bosun/bosunlaw18.CktwoBack", spec := "cktwoBack", inPlace := ["internal/bytealg.IndexByteString", "internal/bytealg.IndexString", "internal/abi.NoEscape"], unfollowed := true, recurses := true, named := ["internal/bytealg.MaxLen"], apart := false, narrowed := true }
def CktwoBackUptoSaid : Prop := cktwoBackUptoRow.holds Try.pinned (OpenSpec.upto cktwoBackSpec)

end Rows
end Go.Proofs.Ytphjhlnjfcfdcaa
