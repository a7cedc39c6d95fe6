/-
  What SimfsSafe takes: the acts, each with its cuts, as they lie.
-/
import Derived.Test.YtimcoofmemcojaaDoA
namespace Go.Proofs.Ytimcoofmemcojaa
open Go.ChangeShapes Go.WideShapes Go.ChangeAt Go.RowKit
structure ActV where
  kd : Int
  name : ByteArray
  dst : ByteArray
  an : Int
  ca : Option Addr
  cn : Nat
  cc : Nat
/-- What is to be done, as it came in. -/
structure ActsAt (w : World) (g off n : Nat) (A : Nat → ActV) : Prop where
  low : g < w.heap.size
  c0 : ∀ i, i < n → w.cell? ⟨g, off + i * 5, none⟩ = some (.int .u8 (A i).kd)
  c1 : ∀ i, i < n → w.cell? ⟨g, off + i * 5 + 1, none⟩ = some (.string (A i).name)
  c2 : ∀ i, i < n → w.cell? ⟨g, off + i * 5 + 2, none⟩ = some (.string (A i).dst)
  c3 : ∀ i, i < n → w.cell? ⟨g, off + i * 5 + 3, none⟩ = some (.int .i64 (A i).an)
  c4 : ∀ i, i < n → w.cell? ⟨g, off + i * 5 + 4, none⟩ = some (.slice (A i).ca (A i).cn (A i).cc)
  num : ∀ i, i < n → -9223372036854775808 ≤ (A i).an ∧ (A i).an ≤ 9223372036854775807
  cuts : ∀ i, i < n → CutsV w.heap.size w (A i).ca (A i).cn
def ActsIs (w : World) (a : Option Addr) (n : Nat) : Prop := n = 0 ∨ ∃ g off A, a = some ⟨g, off, none⟩ ∧ ActsAt w g off n A
def SafeIs (w : World) (e : Ending) (w' : World) : Prop := e = .returned (.bool true) ∧ Fresh w w'
end Go.Proofs.Ytimcoofmemcojaa
