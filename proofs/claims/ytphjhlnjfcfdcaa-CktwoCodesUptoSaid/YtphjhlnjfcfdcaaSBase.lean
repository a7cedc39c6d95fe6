/-
  Rows in memory, wherever they begin.
-/
import Derived.Test.YtphjhlnjfcfdcaaDBase
import Derived.Test.YtphjhlnjfcfdcaaSMath
namespace Go.Proofs.Ytphjhlnjfcfdcaa
open Go.ChangeShapes Go.WideShapes Go.ChangeAt Go.RowKit

theorem Fresh.cell {a b : World} (h : Fresh a b) {p : Addr} {v : Value} (hc : a.cell? p = some v) : b.cell? p = some v :=
  (Below.cell h (World.block_lt_of_cell? a p hc)).trans hc
theorem Fresh.at {a b : World} (h : Fresh a b) {k : Nat} {o : Obj} (hk : a.heap[k]? = some o) : b.heap[k]? = some o := by
  rw [h.block k (Array.getElem?_eq_some_iff.1 hk).1]; exact hk
theorem addr_add (b off n : Nat) : (⟨b, off, none⟩ : Addr).add n = ⟨b, off + n, none⟩ := by
  unfold Addr.add
  split <;> simp_all
/-- A slice at a reads as these cells, wherever it begins. -/
def RowAt (w : World) (a : Option Addr) (cs : List Value) : Prop :=
  cs = [] ∨ ∃ g o, a = some ⟨g, o, none⟩ ∧ ∀ j x, cs[j]? = some x → w.cell? ⟨g, o + j, none⟩ = some x
theorem RowAt.move {w w' : World} {a : Option Addr} {cs : List Value} (h : RowAt w a cs) (f : Fresh w w') : RowAt w' a cs := by
  rcases h with h | ⟨g, o, e, h⟩
  · exact .inl h
  · exact .inr ⟨g, o, e, fun j x hj => f.cell (h j x hj)⟩
theorem RowAt.nil (w : World) (a : Option Addr) : RowAt w a [] := .inl rfl
theorem RowAt.form {w : World} {a : Option Addr} {cs : List Value} (h : RowAt w a cs) (hne : cs ≠ []) : ∃ g o, a = some ⟨g, o, none⟩ ∧ ∀ j x, cs[j]? = some x → w.cell? ⟨g, o + j, none⟩ = some x := by
  rcases h with h | h
  · exact absurd h hne
  · exact h
theorem RowAt.owns {w : World} {B : Nat} {t : TypeId} {k n m c : Nat} {a : Option Addr} {xs : List Value} (h : w.ownsRow B t k (.slice a m c) n xs) : RowAt w a xs := by
  rcases h.2 with ⟨e, hn⟩ | ⟨g, cap, cur, e, _⟩
  · have := h.1
    rw [hn] at this
    exact .inl (List.eq_nil_of_length_eq_zero (by simpa using this))
  · cases e
    exact .inr ⟨g, 0, rfl, fun j x hj => by rw [Nat.zero_add, ← addr_add0]; exact h.cells (g := g) rfl j x hj⟩
theorem flat_length {α : Type} (f : α → List Value) (k : Nat) (h : ∀ x, (f x).length = k) (l : List α) : (l.flatMap f).length = l.length * k := by
  induction l with
  | nil => simp
  | cons a l ih => simp only [List.flatMap_cons, List.length_append, ih, h, List.length_cons, Nat.succ_mul]; omega
theorem flat_get {α : Type} (f : α → List Value) (k : Nat) (h : ∀ x, (f x).length = k) (l : List α) : ∀ (i : Nat) (hi : i < l.length) (j : Nat), j < k → (l.flatMap f)[i * k + j]? = (f l[i])[j]? := by
  induction l with
  | nil => intro i hi; simp at hi
  | cons a l ih =>
    intro i hi j hj
    rw [List.flatMap_cons]
    cases i with
    | zero => rw [List.getElem?_append_left (by rw [h]; omega)]; simp
    | succ i =>
      have e : (i + 1) * k + j = k + (i * k + j) := by rw [Nat.succ_mul]; omega
      rw [List.getElem?_append_right (by rw [h]; omega), h, e, Nat.add_sub_cancel_left]
      exact ih i (by simpa using hi) j hj

end Go.Proofs.Ytphjhlnjfcfdcaa
