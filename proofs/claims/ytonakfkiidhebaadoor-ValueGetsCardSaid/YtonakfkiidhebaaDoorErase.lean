/-
  Worlds in which some blocks read as empty: a value that lies in such a one has no row in these blocks.
-/
import Derived.Test.YtonakfkiidhebaaDoorStack
namespace Go.Proofs.YtonakfkiidhebaaDoor
open Go.ChangeShapes Go.WideShapes Go.ChangeAt Go.RowKit

def Wo (p : Nat → Bool) (w : World) : World := { w with heap := w.heap.mapIdx fun i o => if p i = true then .cells #[] 29 (0, 0) else o }
theorem wo_heap {p : Nat → Bool} {k : Nat} (w : World) (h : p k = false) : (Wo p w).heap[k]? = w.heap[k]? := by
  simp only [Wo, Array.getElem?_mapIdx, h]
  cases w.heap[k]? <;> rfl
theorem wo_none {p : Nat → Bool} {b i : Nat} (w : World) (h : p b = true) (v : Value) : ¬ (Wo p w).cell? ⟨b, i, none⟩ = some v := by
  intro e
  unfold World.cell? at e
  have hb : (Wo p w).heap[b]? = none ∨ (Wo p w).heap[b]? = some (.cells #[] 29 (0, 0)) := by
    simp only [Wo, Array.getElem?_mapIdx, h]
    cases w.heap[b]? with
    | none => exact .inl rfl
    | some o => exact .inr rfl
  rcases hb with hb | hb
  · simp [hb] at e
  · simp [hb] at e
theorem wo_cell {p : Nat → Bool} {b i : Nat} {w : World} {v : Value} (h : (Wo p w).cell? ⟨b, i, none⟩ = some v) : p b = false ∧ w.cell? ⟨b, i, none⟩ = some v := by
  have h1 : p b = false := by
    cases hp : p b with
    | false => rfl
    | true => exact absurd h (wo_none w hp v)
  refine ⟨h1, ?_⟩
  rw [← h]
  exact (World.cell?_of_block (a := ⟨b, i, none⟩) (wo_heap w h1)).symm
theorem wo_up {p : Nat → Bool} {b i : Nat} {w : World} {v : Value} (hp : p b = false) (h : w.cell? ⟨b, i, none⟩ = some v) : (Wo p w).cell? ⟨b, i, none⟩ = some v := by
  rw [World.cell?_of_block (a := ⟨b, i, none⟩) (wo_heap w hp)]; exact h
theorem cell_lt {w : World} {b i : Nat} {v : Value} (h : w.cell? ⟨b, i, none⟩ = some v) : b < w.heap.size := World.block_lt_of_cell? w ⟨b, i, none⟩ h
/-- A value lies in the blocks from N on. -/
def M.New (N : Nat) (w : World) (m : M) : Prop := m.At (Wo (fun k => decide (k < N)) w)
/-- A value has no row in block B or ahead of it, none in block g. -/
def M.Off (B : Nat) (g : Option Nat) (w : World) (m : M) : Prop := m.At (Wo (fun k => decide (k ≤ B ∨ some k = g)) w)
theorem M.New.at {N : Nat} {w : World} {m : M} (h : m.New N w) : m.At w := h.cells fun _ _ _ e => (wo_cell e).2
theorem M.Off.at {B : Nat} {g : Option Nat} {w : World} {m : M} (h : m.Off B g w) : m.At w := h.cells fun _ _ _ e => (wo_cell e).2
theorem M.New.move {N : Nat} {w w' : World} {m : M} (h : m.New N w) (f : Fresh w w') : m.New N w' := h.cells fun g j x e => by
  obtain ⟨h1, h2⟩ := wo_cell e
  exact wo_up h1 (f.cell h2)
theorem M.New.mono {N N' : Nat} {w : World} {m : M} (h : m.New N w) (hN : N' ≤ N) : m.New N' w := h.cells fun g j x e => by
  obtain ⟨h1, h2⟩ := wo_cell e
  exact wo_up (by simp at h1 ⊢; omega) h2
theorem M.Off.move {B : Nat} {g : Option Nat} {w w' : World} {m : M} (h : m.Off B g w) (f : Fresh w w') : m.Off B g w' := h.cells fun gg j x e => by
  obtain ⟨h1, h2⟩ := wo_cell e
  exact wo_up h1 (f.cell h2)
/-- What is new has no row in an old block. -/
theorem M.New.off {N B : Nat} {w : World} {m : M} (h : m.New N w) {g : Option Nat} (hB : B < N) (hg : ∀ k, g = some k → k < N) : m.Off B g w := h.cells fun gg j x e => by
  obtain ⟨h1, h2⟩ := wo_cell e
  refine wo_up ?_ h2
  rw [decide_eq_false_iff_not]
  simp at h1
  rintro (e2 | e2)
  · omega
  · have := hg gg e2.symm
    omega
/-- Behind an append to the row in block r: in it again, or in a new one. -/
theorem M.Off.grown {B : Nat} {r : Option Nat} {g : Nat} {w w' : World} {m : M} (h : m.Off B r w) (hg : w.grownBy w' r) (hat : r = some g ∨ g = w.heap.size) : m.Off B (some g) w' := h.cells fun gg j x e => by
  obtain ⟨h1, h2⟩ := wo_cell e
  have hlt := cell_lt h2
  rw [decide_eq_false_iff_not] at h1
  have hB : ¬ gg ≤ B := fun e => h1 (.inl e)
  have hr : ¬ some gg = r := fun e => h1 (.inr e)
  refine wo_up ?_ (by rw [World.cell?_of_block (a := ⟨gg, j, none⟩) (hg.block gg hlt hr)]; exact h2)
  rw [decide_eq_false_iff_not]
  rintro (e2 | e2)
  · exact hB e2
  · rcases hat with e3 | e3
    · rw [e3] at hr; exact hr e2
    · injection e2 with e2; omega
theorem M.Off.set {B i : Nat} {r : Option Nat} {w : World} {m : M} {v : Value} (h : m.Off B r w) : m.Off B r (w.setCell ⟨B, i, none⟩ v) := h.cells fun gg j x e => by
  obtain ⟨h1, h2⟩ := wo_cell e
  refine wo_up h1 ?_
  rw [decide_eq_false_iff_not] at h1
  rw [World.cell?_of_block (a := ⟨gg, j, none⟩) (Below.heap_setCell w ⟨B, i, none⟩ v gg (fun e => h1 (.inl (Nat.le_of_eq e))))]
  exact h2
theorem M.Off.new {B N : Nat} {g : Option Nat} {w : World} {m : M} (h : m.Off B g w) (hN : N ≤ B + 1) : m.New N w := h.cells fun gg j x e => by
  obtain ⟨h1, h2⟩ := wo_cell e
  rw [decide_eq_false_iff_not] at h1
  exact wo_up (by rw [decide_eq_false_iff_not]; intro h3; exact h1 (.inl (by omega))) h2
/-- A row that lies from N on. -/
theorem row_new {N : Nat} {w : World} {a : Option Addr} {cs : List Value} (h : RowAt w a cs) (hN : ∀ ad, a = some ad → N ≤ ad.block) : RowAt (Wo (fun k => decide (k < N)) w) a cs := by
  rcases h with h | ⟨g, e, h⟩
  · exact .inl h
  · refine .inr ⟨g, e, fun j x hj => wo_up ?_ (h j x hj)⟩
    have := hN _ e
    simp at this ⊢
    omega
theorem M.New.set {N b i : Nat} {w : World} {m : M} {v : Value} (h : m.New N w) (hb : b < N) : m.New N (w.setCell ⟨b, i, none⟩ v) := h.cells fun gg j x e => by
  obtain ⟨h1, h2⟩ := wo_cell e
  refine wo_up h1 ?_
  simp at h1
  rw [World.cell?_of_block (a := ⟨gg, j, none⟩) (Below.heap_setCell w ⟨b, i, none⟩ v gg (fun e => by dsimp only at e; omega))]
  exact h2
end Go.Proofs.YtonakfkiidhebaaDoor
