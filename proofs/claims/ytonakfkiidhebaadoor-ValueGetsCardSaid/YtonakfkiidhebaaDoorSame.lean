/-
  Package value: Same.
-/
import Derived.Test.YtonakfkiidhebaaDoorDepth
import Derived.RegionTactic
import Derived.Deep.RegionHeld3
import Derived.Deep.RegionHeldLaw
import Derived.Deep.DrawnRows
namespace Go.Proofs.YtonakfkiidhebaaDoor
open Go.ChangeShapes Go.WideShapes Go.ChangeAt Go.RowKit
attribute [local go_sem ↓] Go.wp_at_zero Go.wp_at_succ
variable {w : World}

theorem info68 : (Tryd.prog.info? 68).map (fun i => (i.zero, i.size, i.bytes)) = some (some (.agg #[.int .i64 0, .bool false, .int .i64 0, .string ⟨#[]⟩, .slice none 0 0, .slice none 0 0, .int .i64 0, .bool false, .int .i64 0, .string ⟨#[]⟩, .slice none 0 0, .slice none 0 0]), 12, 176) := by kernel_rfl
def dcellsOf (p : M × M) : List Value := p.1.cells ++ p.2.cells
def dcells (l : List (M × M)) : List Value := l.flatMap dcellsOf
theorem dcellsOf_length (p : M × M) : (dcellsOf p).length = 12 := by simp [dcellsOf, cells_length]
theorem dcells_snoc (l : List (M × M)) (p : M × M) : dcells (l ++ [p]) = dcells l ++ dcellsOf p := flat_snoc _ _ _
theorem dcells_length (l : List (M × M)) : (dcells l).length = l.length * 12 := flat_length _ _ dcellsOf_length l
theorem dcells_one (p : M × M) : ∀ u ∈ dcellsOf p, u.oneCell' = true := by
  intro u hu
  unfold dcellsOf at hu
  rw [List.mem_append] at hu
  rcases hu with hu | hu
  · exact cells_one _ u hu
  · exact cells_one _ u hu
def pst2 (l : List (M × M)) : List (V × V) := l.map fun p => (p.1.plain, p.2.plain)
theorem pst2_append (l m : List (M × M)) : pst2 (l ++ m) = pst2 l ++ pst2 m := by simp [pst2]
def pushM2 (l m : List M) : List (M × M) := (l.zip m).filter fun p => p.1.plain.holds
theorem pst2_pushM2 : ∀ (l m : List M), pst2 (pushM2 l m) = pushed2 (l.map M.plain) (m.map M.plain)
  | [], _ => rfl
  | _ :: _, [] => rfl
  | x :: l, y :: m => by
    have ih := pst2_pushM2 l m
    unfold pst2 pushM2 pushed2 at *
    simp only [List.map_cons, List.zip_cons_cons, List.filter_cons]
    split <;> simp [ih]
theorem pushM2_take (l m : List M) (k : Nat) (hl : k < l.length) (hm : k < m.length) : pushM2 (l.take (k + 1)) (m.take (k + 1)) = pushM2 (l.take k) (m.take k) ++ if l[k].plain.holds = true then [(l[k], m[k])] else [] := by
  unfold pushM2
  rw [List.take_succ_eq_append_getElem hl, List.take_succ_eq_append_getElem hm, List.zip_append (by simp; omega), List.filter_append]
  cases h : l[k].plain.holds <;> simp [h]
theorem pushM2_mem {l m : List M} {p : M × M} (h : p ∈ pushM2 l m) : p.1 ∈ l ∧ p.2 ∈ m := by
  unfold pushM2 at h
  rw [List.mem_filter] at h
  obtain ⟨a, b⟩ := p
  exact List.of_mem_zip h.1
structure Left2 (w wr : World) (a : Option Addr) (c : Nat) (st : List (M × M)) : Prop where
  own : wr.ownsRow w.heap.size 68 12 (.slice a st.length c) st.length (dcells st)
  fresh : Fresh w wr
theorem Left2.move {w wr w' : World} {a : Option Addr} {c : Nat} {st : List (M × M)} (h : Left2 w wr a c st) (f : Fresh wr w') : Left2 w w' a c st := ⟨owns_move h.own f, h.fresh.trans f⟩
structure Todo2 (w : World) (R : Bool) (st : List (M × M)) : Prop where
  all : ∀ p ∈ st, p.1.At w ∧ p.2.At w
  res : allS (pst2 st) = R
theorem Todo2.step {w : World} {R : Bool} {st : List (M × M)} {x y : M} (h : Todo2 w R (st ++ [(x, y)])) (ha : alikeL (x.inside.map M.plain) (y.inside.map M.plain) = true) : Todo2 w R (st ++ pushM2 x.inside y.inside) := by
  obtain ⟨h1, h2⟩ := h.all (x, y) (by simp)
  refine ⟨fun p hp => ?_, ?_⟩
  · rcases List.mem_append.1 hp with hp | hp
    · exact h.all p (by simp [hp])
    · obtain ⟨a, b⟩ := pushM2_mem hp
      exact ⟨h1.inside _ a, h2.inside _ b⟩
  · rw [← h.res, pst2_append, pst2_append, pst2_pushM2, ← plain_inside, ← plain_inside]
    rw [← plain_inside, ← plain_inside] at ha
    exact (allS_step ha).symm
theorem Todo2.parted {w : World} {R : Bool} {st : List (M × M)} {x y : M} (h : Todo2 w R (st ++ [(x, y)])) (ha : alikeL (x.inside.map M.plain) (y.inside.map M.plain) = false) : R = false := by
  rw [← h.res, pst2_append]
  rw [← plain_inside, ← plain_inside] at ha
  exact allS_parted ha
theorem Left2.last {w wr : World} {a : Option Addr} {c : Nat} {st : List (M × M)} {x y : M} (h : Left2 w wr a c (st ++ [(x, y)])) :
    ∃ g, a = some ⟨g, 0, none⟩ ∧ w.heap.size ≤ g ∧ st.length + 1 ≤ c ∧ x.lies wr g (st.length * 12) ∧ y.lies wr g (st.length * 12 + 6) ∧ Left2 w wr a c st := by
  have ho := h.own
  rw [dcells_snoc, List.length_append, List.length_singleton] at ho
  have hrow := RowAt.owns ho
  have hpop := owns_pop ho (dcellsOf_length _)
  rcases ho.2 with ⟨_, e⟩ | ⟨g, cap, cur, e, hb, _, hnc, _⟩
  · omega
  · cases e
    rcases hrow with ⟨e, _⟩ | ⟨g', e, hrow⟩
    · cases e
    · cases e
      have hg : ∀ j v, (dcellsOf (x, y))[j]? = some v → wr.cell? ⟨g, st.length * 12 + j, none⟩ = some v := fun j v hj => hrow _ _ (by
        rw [List.getElem?_append_right (by rw [dcells_length]; omega), dcells_length, Nat.add_sub_cancel_left]; exact hj)
      refine ⟨g, rfl, hb, hnc, M.lies.of _ fun j v hj => hg j v ?_, M.lies.of _ fun j v hj => ?_, hpop, h.fresh⟩
      · unfold dcellsOf
        rw [List.getElem?_append_left (List.getElem?_eq_some_iff.1 hj).1]; exact hj
      · have := hg (6 + j) v (by
          unfold dcellsOf
          rw [List.getElem?_append_right (by rw [cells_length]; omega), cells_length, Nat.add_sub_cancel_left]; exact hj)
        rw [Nat.add_assoc]; exact this
theorem left2_start (x y : M) (w W : World) (b : Nat) (hb : W.heap[b]? = some (.cells (x.cells ++ y.cells).toArray 68 (0, 0))) (hle : w.heap.size ≤ b) (hf : Fresh w W) : Left2 w W (some ⟨b, 0, none⟩) 1 [(x, y)] :=
  ⟨by
    have := owns_built (B := w.heap.size) (k := 12) (n := 1) hb hle (by simp [cells_length]) (by decide)
    simpa [dcells, dcellsOf] using this, hf⟩
theorem after_push2 {w W w5 : World} {a' ia ib : Option Addr} {c' q g' cap' : Nat} {ST : List (M × M)} {p : M × M} {ins ims : List M} (o : Obj)
    (hq : q = ST.length) (hL : Left2 w W a' c' ST) (hR : RowAt W ia (mcells ins)) (hR2 : RowAt W ib (mcells ims)) (hne : ins ≠ []) (hne2 : ims ≠ []) (hA : Apart a' ia ins) (hA2 : Apart a' ib ims)
    (hown : w5.ownsRow w.heap.size 68 12 (.slice (some ⟨g', 0, none⟩) (q + 1) cap') (q + 1) (dcells ST ++ dcellsOf p)) (hgrow : (W.alloc o).grownBy w5 (Value.slice a' q c').ownBlock) (hat : (Value.slice a' q c').ownBlock = some g' ∨ g' = W.heap.size + 1) :
    Left2 w w5 (some ⟨g', 0, none⟩) cap' (ST ++ [p]) ∧ RowAt w5 ia (mcells ins) ∧ RowAt w5 ib (mcells ims) ∧ Apart (some ⟨g', 0, none⟩) ia ins ∧ Apart (some ⟨g', 0, none⟩) ib ims := by
  subst hq
  have hb : ∀ k, (Value.slice a' ST.length c').ownBlock = some k → ∃ ad : Addr, a' = some ad ∧ ad.block = k := fun k h => by
    cases a' with
    | none => cases h
    | some ad => exact ⟨ad, rfl, by simpa [Value.ownBlock] using h⟩
  have hc : ∀ {l : List M}, l ≠ [] → mcells l ≠ [] := fun hne e => hne (by
    have := congrArg List.length e
    rw [mcells_length] at this
    simp only [List.length_nil] at this
    exact List.eq_nil_of_length_eq_zero (by omega))
  have row : ∀ {i : Option Addr} {l : List M}, l ≠ [] → RowAt W i (mcells l) → Apart a' i l → RowAt w5 i (mcells l) ∧ Apart (some ⟨g', 0, none⟩) i l := fun {i l} hne hR hA => by
    refine ⟨(hR.move ((Fresh.refl W).alloc o)).grown hgrow (fun ad e h => ?_), fun _ x y hx hy => ?_⟩
    · obtain ⟨x, hx, hxb⟩ := hb _ h.symm
      exact hA hne x ad hx e hxb
    · cases hx
      rcases hat with h | h
      · obtain ⟨x, hx, hxb⟩ := hb _ h
        have := hA hne x y hx hy
        show g' ≠ y.block
        omega
      · have := hR.lt (hc hne) y hy
        show g' ≠ y.block
        omega
  obtain ⟨r1, r2⟩ := row hne hR hA
  obtain ⟨r3, r4⟩ := row hne2 hR2 hA2
  exact ⟨⟨by rw [dcells_snoc, List.length_append, List.length_singleton]; exact hown, own_grown (Nat.le_refl _) (World.ownsRow.alloc hL.own o) (hL.fresh.alloc o) hgrow⟩, r1, r3, r2, r4⟩
theorem box12 {w : World} {b : Nat} {c0 c1 c2 c3 c4 c5 d0 d1 d2 d3 d4 d5 : Value} {T : TypeId} {z : Nat × Nat} (h : w.heap[b]? = some (.cells #[c0, c1, c2, c3, c4, c5, d0, d1, d2, d3, d4, d5] T z)) :
    (w.cell? ⟨b, 0, none⟩ = some c0 ∧ w.cell? ⟨b, 1, none⟩ = some c1 ∧ w.cell? ⟨b, 2, none⟩ = some c2 ∧ w.cell? ⟨b, 3, none⟩ = some c3 ∧ w.cell? ⟨b, 4, none⟩ = some c4 ∧ w.cell? ⟨b, 5, none⟩ = some c5) ∧
    (w.cell? ⟨b, 6, none⟩ = some d0 ∧ w.cell? ⟨b, 7, none⟩ = some d1 ∧ w.cell? ⟨b, 8, none⟩ = some d2 ∧ w.cell? ⟨b, 9, none⟩ = some d3 ∧ w.cell? ⟨b, 10, none⟩ = some d4 ∧ w.cell? ⟨b, 11, none⟩ = some d5) :=
  ⟨⟨cell_of_at h rfl, cell_of_at h rfl, cell_of_at h rfl, cell_of_at h rfl, cell_of_at h rfl, cell_of_at h rfl⟩, cell_of_at h rfl, cell_of_at h rfl, cell_of_at h rfl, cell_of_at h rfl, cell_of_at h rfl, cell_of_at h rfl⟩
theorem same_no (m m' : M) (w : World) (hm : m.At w) (hm' : m'.At w) (ha : m.plain.alike m'.plain = false) : Calls Tryd.prog 13 #[m.val, m'.val] w fun e w' => e = .returned (.bool false) ∧ Fresh w w' := by
  have HQ : Hid (∀ W, Fresh w W → Calls Tryd.prog 29 #[m.val, m'.val] W fun e w' => e = .returned (.bool false) ∧ Fresh W w') := fun W hf => by rw [← ha]; exact alike_any m m' W (hm.move hf) (hm'.move hf)
  clear hm hm' ha
  obtain ⟨k, f, n, s, la, lc, l, ka, kc, ks⟩ := m
  obtain ⟨k', f', n', s', la', lc', l', ka', kc', ks'⟩ := m'
  dsimp only [M.val] at *
  generalize l.length = ln at *
  generalize ks.length = kn at *
  generalize l'.length = ln' at *
  generalize ks'.length = kn' at *
  go_enter Tryd.func13, Tryd.ntmps13
  go_wp2_with fail
  refine (HQ.out _ (((Fresh.refl w).alloc _).alloc _)).mono ?_
  rintro e w1 ⟨rfl, hf⟩
  go_wp2
  go_ret
  exact ⟨rfl, (((Fresh.refl w).alloc _).alloc _).trans hf⟩
end Go.Proofs.YtonakfkiidhebaaDoor
