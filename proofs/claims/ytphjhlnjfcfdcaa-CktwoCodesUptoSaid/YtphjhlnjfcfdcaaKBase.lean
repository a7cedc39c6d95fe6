/-
  States of version 1 in memory.
-/
import Derived.Test.YtphjhlnjfcfdcaaKMath
namespace Go.Proofs.Ytphjhlnjfcfdcaa
open Go.ChangeShapes Go.WideShapes Go.ChangeAt Go.RowKit

def P1.cells (p : P1) : List Value := [.string p.file, .string p.name, .string p.image, .int .u8 p.r]
def P1.val (p : P1) : Value := .agg #[.string p.file, .string p.name, .string p.image, .int .u8 p.r]
def p1s (l : List P1) : List Value := l.flatMap P1.cells
theorem p1s_len (l : List P1) : (p1s l).length = l.length * 4 := flat_length P1.cells 4 (fun _ => rfl) l
theorem p1s_snoc (l : List P1) (p : P1) : p1s (l ++ [p]) = p1s l ++ [.string p.file, .string p.name, .string p.image, .int .u8 p.r] := by simp [p1s, P1.cells]
/-- The four cells of a pod at a place. -/
def P1.lies (w : World) (g o : Nat) (p : P1) : Prop :=
  w.cell? ⟨g, o, none⟩ = some (.string p.file) ∧ w.cell? ⟨g, o + 1, none⟩ = some (.string p.name) ∧ w.cell? ⟨g, o + 2, none⟩ = some (.string p.image) ∧ w.cell? ⟨g, o + 3, none⟩ = some (.int .u8 p.r)
theorem p1_form {w : World} {a : Option Addr} {l : List P1} (h : RowAt w a (p1s l)) {i0 : Nat} (h0 : i0 < l.length) : ∃ g o, a = some ⟨g, o, none⟩ ∧ ∀ i (hi : i < l.length), l[i].lies w g (o + i * 4) := by
  obtain ⟨g, o, e, h⟩ := h.form (fun e => by
    have := p1s_len l
    rw [e] at this
    simp at this; omega)
  have each : ∀ i (hi : i < l.length) j x, j < 4 → l[i].cells[j]? = some x → w.cell? ⟨g, o + i * 4 + j, none⟩ = some x := fun i hi j x hj hx => by
    have := h _ _ ((flat_get P1.cells 4 (fun _ => rfl) l i hi j hj).trans hx)
    rw [Nat.add_assoc]; exact this
  exact ⟨g, o, e, fun i hi => ⟨each i hi 0 _ (by omega) rfl, each i hi 1 _ (by omega) rfl, each i hi 2 _ (by omega) rfl, each i hi 3 _ (by omega) rfl⟩⟩
/-- A pod in a block of its own. -/
theorem p1_box {w : World} {b t : Nat} {p : P1} (h : w.heap[b]? = some (.cells #[.string p.file, .string p.name, .string p.image, .int .u8 p.r] t)) : p.lies w b 0 ∧ ∀ i, w.frozen? ⟨b, i, none⟩ = false :=
  ⟨⟨cell_of_at h rfl, cell_of_at h rfl, cell_of_at h rfl, cell_of_at h rfl⟩, frozen_of_at h⟩
/-- A state. -/
def st1 (seq : Int) (a : Option Addr) (n c : Nat) : Value := .agg #[.int .u32 seq, .slice a n c]
theorem st1_box {w : World} {b t : Nat} {seq : Int} {a : Option Addr} {n c : Nat} (h : w.heap[b]? = some (.cells #[.int .u32 seq, .slice a n c] t)) :
    w.cell? ⟨b, 0, none⟩ = some (.int .u32 seq) ∧ w.cell? ⟨b, 1, none⟩ = some (.slice a n c) ∧ ∀ i, w.frozen? ⟨b, i, none⟩ = false :=
  ⟨cell_of_at h rfl, cell_of_at h rfl, frozen_of_at h⟩
end Go.Proofs.Ytphjhlnjfcfdcaa
