/-
  The statements' own Build: what stands on the stacks, apart from the blocks of the answers.
-/
import Derived.Test.YtonakfkiidhebaaDoorBuildBase
namespace Go.Proofs.YtonakfkiidhebaaDoor
open Go.ChangeShapes Go.WideShapes Go.ChangeAt Go.RowKit

/-- The world without the two blocks of the answers. -/
def Er (R : Nat) (w : World) : World := { w with heap := (w.heap.modify R fun _ => .cells #[] 29 (0, 0)).modify (R + 1) fun _ => .cells #[] 33 (0, 0) }
theorem er_heap {R k : Nat} (w : World) (h1 : k ≠ R) (h2 : k ≠ R + 1) : (Er R w).heap[k]? = w.heap[k]? := by
  simp only [Er, Array.getElem?_modify]
  rw [if_neg (Ne.symm h2), if_neg (Ne.symm h1)]
theorem er_size (R : Nat) (w : World) : (Er R w).heap.size = w.heap.size := by simp [Er]
theorem er_none {R b i : Nat} (w : World) (h : b = R ∨ b = R + 1) (v : Value) : ¬ (Er R w).cell? ⟨b, i, none⟩ = some v := by
  intro e
  unfold World.cell? at e
  have hb : (Er R w).heap[b]? = none ∨ ∃ T, (Er R w).heap[b]? = some (.cells #[] T (0, 0)) := by
    simp only [Er, Array.getElem?_modify]
    rcases h with rfl | rfl
    · rw [if_neg (by omega), if_pos rfl]
      cases w.heap[b]? with
      | none => exact .inl rfl
      | some o => exact .inr ⟨29, rfl⟩
    · rw [if_pos rfl, if_neg (by omega)]
      cases w.heap[R + 1]? with
      | none => exact .inl rfl
      | some o => exact .inr ⟨33, rfl⟩
  rcases hb with hb | ⟨T, hb⟩
  · simp [hb] at e
  · simp [hb] at e
theorem er_cell {R b i : Nat} {w : World} {v : Value} (h : (Er R w).cell? ⟨b, i, none⟩ = some v) : b ≠ R ∧ b ≠ R + 1 ∧ w.cell? ⟨b, i, none⟩ = some v := by
  have h1 : b ≠ R := fun e => er_none w (.inl e) v h
  have h2 : b ≠ R + 1 := fun e => er_none w (.inr e) v h
  refine ⟨h1, h2, ?_⟩
  rw [← h]
  exact (World.cell?_of_block (a := ⟨b, i, none⟩) (er_heap w h1 h2)).symm
theorem er_fresh {R : Nat} {a b : World} (h : Fresh a b) : Fresh (Er R a) (Er R b) := by
  refine ⟨h.os, h.tape, h.output, by rw [er_size, er_size]; exact h.size, fun k hk => ?_⟩
  rw [er_size] at hk
  simp only [Er, Array.getElem?_modify, h.block k hk]
theorem RowAt.cells {w w' : World} {a : Option Addr} {cs : List Value} (h : RowAt w a cs) (hc : ∀ g j x, w.cell? ⟨g, j, Option.none⟩ = some x → w'.cell? ⟨g, j, Option.none⟩ = some x) : RowAt w' a cs := by
  rcases h with h | ⟨g, e, h⟩
  · exact .inl h
  · exact .inr ⟨g, e, fun j x hj => hc g j x (h j x hj)⟩
theorem M.At.cells {w w' : World} {m : M} (h : m.At w) (hc : ∀ g j x, w.cell? ⟨g, j, none⟩ = some x → w'.cell? ⟨g, j, none⟩ = some x) : m.At w' := by
  induction h with
  | mk hs hl hk ll lk hn ml mk ihl ihk => exact .mk hs (hl.cells hc) (hk.cells hc) ll lk hn ihl ihk
theorem M.At.down {R : Nat} {w : World} {m : M} (h : m.At (Er R w)) : m.At w := h.cells fun _ _ _ e => (er_cell e).2.2
theorem RowAt.down {R : Nat} {w : World} {a : Option Addr} {cs : List Value} (h : RowAt (Er R w) a cs) : RowAt w a cs := h.cells fun _ _ _ e => (er_cell e).2.2
theorem Stacks.down {R : Nat} {w : World} {aa ab : Option Addr} {n i : Nat} {ms ns : List M} (h : Stacks (Er R w) aa ab n i ms ns) : Stacks w aa ab n i ms ns :=
  ⟨h.la, h.lb, h.ra.down, h.rb.down, fun m hm => (h.ma m hm).down, fun m hm => (h.mb m hm).down, h.same, h.size⟩
theorem row_up {R g : Nat} {w : World} {cs : List Value} (h : RowAt w (some ⟨g, 0, none⟩) cs) (hg : R + 1 < g) : RowAt (Er R w) (some ⟨g, 0, none⟩) cs := by
  rcases h with ⟨e, _⟩ | ⟨g', e, h⟩
  · cases e
  · cases e
    exact .inr ⟨g, rfl, fun j x hj => (World.cell?_of_block (a := ⟨g, j, none⟩) (er_heap w (by show g ≠ R; omega) (by show g ≠ R + 1; omega))).trans (h j x hj)⟩
theorem row_up_any {R : Nat} {w : World} {a : Option Addr} {cs : List Value} (h : RowAt w a cs) (hg : ∀ ad : Addr, a = some ad → R + 1 < ad.block) : RowAt (Er R w) a cs := by
  rcases h with h | ⟨g, e, h⟩
  · exact .inl h
  · subst e
    exact row_up (.inr ⟨g, rfl, h⟩) (hg _ rfl)
theorem row_take {w : World} {a : Option Addr} {ms : List M} (h : RowAt w a (mcells ms)) (d : Nat) : RowAt w a (mcells (ms.take d)) := by
  have e : mcells ms = mcells (ms.take d) ++ mcells (ms.drop d) := by
    unfold mcells
    rw [← List.flatMap_append, List.take_append_drop]
  rcases h with ⟨h1, h2⟩ | ⟨g, e1, h⟩
  · rw [h2] at e
    exact .inl ⟨h1, (List.append_eq_nil_iff.1 e.symm).1⟩
  · refine .inr ⟨g, e1, fun j x hj => h j x ?_⟩
    rw [e, List.getElem?_append_left (List.getElem?_eq_some_iff.1 hj).1]
    exact hj
theorem sizeL_append (a b : List V) : sizeL (a ++ b) = sizeL a + sizeL b := by
  induction a with
  | nil => simp [sizeL]
  | cons v a ih => simp only [List.cons_append, sizeL, ih]; omega
/-- A value, and its twin, come onto the stacks. -/
theorem push_stack {R : Nat} {u0 u : World} {aa ab : Option Addr} {n d i : Nat} {ms ns : List M} (h : Stacks (Er R u0) aa ab n i ms ns) (hd : d ≤ n) (hf : Fresh u0 u) {X Y : M} (hX : X.At (Er R u)) (hY : Y.At (Er R u)) (hp : X.plain = Y.plain) (hs : X.plain.size ≤ 1 + sizeL ((ms.drop d).map M.plain)) {g g2 : Nat}
    (ra : RowAt u (some ⟨g, 0, none⟩) (mcells (ms.take d ++ [X]))) (rb : RowAt u (some ⟨g2, 0, none⟩) (mcells (ns.take d ++ [Y]))) (h1 : R + 1 < g) (h2 : R + 1 < g2) : Stacks (Er R u) (some ⟨g, 0, none⟩) (some ⟨g2, 0, none⟩) (d + 1) (i + 1) (ms.take d ++ [X]) (ns.take d ++ [Y]) := by
  have hfe := er_fresh (R := R) hf
  refine ⟨?_, ?_, row_up ra h1, row_up rb h2, ?_, ?_, ?_, ?_⟩
  · have := h.la; rw [List.length_append, List.length_take, List.length_singleton]; omega
  · have := h.lb; rw [List.length_append, List.length_take, List.length_singleton]; omega
  · intro m hm
    rcases List.mem_append.1 hm with hm | hm
    · exact (h.ma m (List.mem_of_mem_take hm)).move hfe
    · rw [List.mem_singleton] at hm; subst hm; exact hX
  · intro m hm
    rcases List.mem_append.1 hm with hm | hm
    · exact (h.mb m (List.mem_of_mem_take hm)).move hfe
    · rw [List.mem_singleton] at hm; subst hm; exact hY
  · rw [List.map_append, List.map_append, List.map_take, List.map_take, h.same, List.map_singleton, List.map_singleton, hp]
  · have e : sizeL (ms.map M.plain) = sizeL ((ms.take d).map M.plain) + sizeL ((ms.drop d).map M.plain) := by
      rw [← sizeL_append, ← List.map_append, List.take_append_drop]
    have := h.size
    rw [List.map_append, sizeL_append, List.map_singleton]
    simp only [sizeL]
    omega
/-! ### keys -/
def keysOf (p : Pt) (l : List M) : List (ByteArray × M) := l.zipIdx.map fun x => (keyName p x.2, x.1)
theorem keysOf_snoc (p : Pt) (l : List M) (m : M) : keysOf p (l ++ [m]) = keysOf p l ++ [(keyName p l.length, m)] := by
  simp [keysOf, List.zipIdx_append]
theorem keysOf_length (p : Pt) (l : List M) : (keysOf p l).length = l.length := by simp [keysOf]
theorem keysOf_mem {p : Pt} {l : List M} {x : ByteArray × M} (h : x ∈ keysOf p l) : x.1.size ≤ p.text.size + 1 ∧ x.2 ∈ l := by
  unfold keysOf at h
  obtain ⟨y, hy, rfl⟩ := List.mem_map.1 h
  refine ⟨?_, (List.mem_zipIdx' hy).2 ▸ List.getElem_mem _⟩
  show (keyName p y.2).size ≤ _
  unfold keyName
  rw [ByteArray.size_append]
  exact Nat.le_refl _
theorem keysOf_snd (p : Pt) (l : List M) : (keysOf p l).map (·.2) = l := by
  simp [keysOf, Function.comp_def]
theorem plainK_keys (p : Pt) (l : List M) : plainK (keysOf p l) = (l.map M.plain).zipIdx.map fun x => (keyName p x.2, x.1) := by
  rw [plainK_eq, keysOf, List.zipIdx_map]
  simp [Function.comp_def]
theorem keys_size (p : Pt) (l : List M) : sizeK (plainK (keysOf p l)) = sizeL (l.map M.plain) := by
  rw [sizeK_eq, plainK_eq, List.map_map]
  have : ((fun x : ByteArray × V => x.2) ∘ fun p : ByteArray × M => (p.1, p.2.plain)) = M.plain ∘ fun p : ByteArray × M => p.2 := rfl
  rw [this, ← List.map_map, keysOf_snd]
end Go.Proofs.YtonakfkiidhebaaDoor
