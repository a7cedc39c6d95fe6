/-
  Rows of texts in memory.
-/
import Derived.Test.YtphjhlnjfcfdcaaRows
import Derived.Test.YtphjhlnjfcfdcaaDMath
import Derived.WalkKit
import Derived.ProofKit
import Derived.OpenShut
import Derived.ShutString
import Derived.WalkSpells
import Derived.WalkLawsBesides
import Derived.LoopTactic
import Derived.Lib.Hide
import Derived.Lib.UnsafeStr
import Derived.Lib.BufferWrite
import Derived.Lib.Walk
import Derived.Below
import Derived.Deep.OwnRows
import Derived.Deep.AppendLies
import Derived.Laws.IdiomStrings
import Derived.Laws.BitsAllLaws
import Derived.Laws.MakeOwn
import Derived.Deep.QuietTactic
import Derived.BigQuiet
import Derived.Deep.LoopGhost
import Derived.Deep.Draws
namespace Go.Proofs.Ytphjhlnjfcfdcaa
open Go.ChangeShapes Go.WideShapes Go.ChangeAt Go.RowKit

/-- Of what was there nothing has turned; there may be new blocks. -/
def Fresh (w w' : World) : Prop := Below w.heap.size w w'
theorem Fresh.refl (w : World) : Fresh w w := Below.refl _ _
theorem Fresh.trans {a b c : World} (h : Fresh a b) (k : Fresh b c) : Fresh a c := Below.trans h (Below.mono k h.size)
theorem Fresh.alloc {a b : World} (h : Fresh a b) (o : Obj) : Fresh a (b.alloc o) := Below.alloc h h.size o
theorem Fresh.setCell {a b : World} (h : Fresh a b) {p : Addr} (hp : a.heap.size ≤ p.block) (u : Value) : Fresh a (b.setCell p u) := Below.setCell h hp u
theorem Fresh.drew {a b : World} (h : Fresh a b) : Fresh a b.drew := Below.drew h
theorem Fresh.below {a b c : World} {B : Nat} (h : Fresh a b) (k : Below B b c) (hB : a.heap.size ≤ B) : Fresh a c := Below.trans h (Below.mono k hB)
theorem Fresh.grown {a b c : World} (h : Fresh a b) {row : Option Nat} (hg : b.grownBy c row) (hr : ∀ g, row = some g → a.heap.size ≤ g) : Fresh a c := Below.grown h hg h.size hr
theorem lt_of_at {w : World} {k : Nat} {o : Obj} (hk : w.heap[k]? = some o) : k < w.heap.size := (Array.getElem?_eq_some_iff.1 hk).1
theorem at_alloc {w : World} {k : Nat} {o p : Obj} (hk : w.heap[k]? = some o) : (w.alloc p).heap[k]? = some o := by
  rw [Below.heap_alloc _ _ _ (lt_of_at hk)]; exact hk
theorem at_new (w : World) (o : Obj) : (w.alloc o).heap[w.heap.size]? = some o := by
  show (w.heap.push o)[w.heap.size]? = _
  simp
theorem cell_of_at {w : World} {b : Nat} {cs : Array Value} {t : TypeId} {z : Nat × Nat} (h : w.heap[b]? = some (.cells cs t z)) {i : Nat} {v : Value} (hi : cs[i]? = some v) : w.cell? ⟨b, i, none⟩ = some v := by
  simp [World.cell?, h, hi]
theorem addr_add0 (b n : Nat) : (⟨b, 0, none⟩ : Addr).add n = ⟨b, n, none⟩ := by
  unfold Addr.add
  split <;> simp_all
theorem grown_set (w : World) (g o : Nat) (u : Value) : w.grownBy (w.setCell ⟨g, o, none⟩ u) (some g) :=
  ⟨rfl, rfl, rfl, by simp [World.setCell], fun k _ hk => Below.heap_setCell _ _ _ _ (fun e => hk (by rw [e]))⟩
theorem info5 : (Try.prog.info? 5).map (fun i => (i.zero, i.size, i.bytes)) = some (some (.int .u8 0), 1, 1) := by kernel_rfl
theorem ret_int {k : IntKind} {a b : Int} (h : a = b) : Ending.returned (.int k a) = .returned (.int k b) := by rw [h]
theorem ret_bool {a b : Bool} (h : a = b) : Ending.returned (.bool a) = .returned (.bool b) := by rw [h]
theorem ret_string {a b : ByteArray} (h : a = b) : Ending.returned (.string a) = .returned (.string b) := by rw [h]

def tx (l : List UInt8) : ByteArray := ⟨l.toArray⟩
theorem tx_toList (l : List UInt8) : (tx l).data.toList = l := by simp [tx]
theorem tx_size (l : List UInt8) : (tx l).size = l.length := by simp [tx, ByteArray.size]
theorem tx_of (s : ByteArray) : tx s.data.toList = s := by
  cases s; rfl
theorem tx_extract (s : ByteArray) (a b : Nat) : s.extract a b = tx ((s.data.toList.drop a).take (b - a)) := by
  conv => lhs; rw [← tx_of s]
  rw [Lib.extract_eq]; rfl
/-! ### rows of texts -/
def scells (l : List (List UInt8)) : List Value := l.map fun x => .string (tx x)
theorem scells_snoc (l : List (List UInt8)) (x : List UInt8) : scells (l ++ [x]) = scells l ++ [.string (tx x)] := by simp [scells]
/-- A row of texts that the call owns, from block B on. -/
def SBuf (w : World) (B : Nat) (v : Value) (l : List (List UInt8)) : Prop := w.ownsRow B 9 1 v l.length (scells l)
theorem SBuf.lt {w : World} {B : Nat} {v : Value} {l : List (List UInt8)} (h : SBuf w B v l) : ∀ g, v.ownBlock = some g → B ≤ g ∧ g < w.heap.size := World.ownsRow.lt h
theorem SBuf.fresh {w w' : World} {B : Nat} {v : Value} {l : List (List UInt8)} (h : SBuf w B v l) (hf : Fresh w w') : SBuf w' B v l := by
  refine World.ownsRow.kept (row := none) h ⟨hf.os, hf.tape, hf.output, hf.size, fun k hk _ => hf.block k hk⟩ ?_
  rcases h' : v.ownBlock with _ | g
  · exact .inl rfl
  · exact .inr (by simp)
theorem SBuf.more {w' : World} {B : Nat} {v : Value} {l : List (List UInt8)} {x : List UInt8} (h : w'.ownsRow B 9 1 v (l.length + 1) (scells l ++ [.string (tx x)])) : SBuf w' B v (l ++ [x]) := by
  unfold SBuf
  rw [scells_snoc, List.length_append]
  exact h
theorem scells_get (l : List (List UInt8)) (j : Nat) (h : j < l.length) : (scells l)[j]? = some (.string (tx l[j])) := by
  unfold scells
  rw [List.getElem?_map, List.getElem?_eq_getElem h]; rfl
theorem SBuf.cell {w : World} {B g n cap : Nat} {l : List (List UInt8)} (h : SBuf w B (.slice (some ⟨g, 0, none⟩) n cap) l) (j : Nat) (hj : j < l.length) : w.cell? ⟨g, j, none⟩ = some (.string (tx l[j])) := by
  have := World.ownsRow.cells h rfl j _ (scells_get l j hj)
  rwa [addr_add0] at this
theorem info9 : (Try.prog.info? 9).map (fun i => (i.zero, i.size, i.bytes)) = some (some (.string ⟨#[]⟩), 1, 16) := by kernel_rfl
theorem take_snoc (s : ByteArray) (k : Nat) (h : k < s.size) : s.data.toList.take (k + 1) = s.data.toList.take k ++ [s[k]] := by
  rw [List.take_succ_eq_append_getElem (by simpa using h)]; rfl
end Go.Proofs.Ytphjhlnjfcfdcaa
