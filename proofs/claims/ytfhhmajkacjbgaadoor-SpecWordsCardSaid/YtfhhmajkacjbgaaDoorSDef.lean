/-
  The document's Default.
-/
import Derived.Test.YtfhhmajkacjbgaaDoorSTexts
import Derived.RangeFuncBox
import Derived.StillTailTactics
namespace Go.Proofs.YtfhhmajkacjbgaaDoor
open Go.ChangeShapes Go.WideShapes Go.ChangeAt Go.RowKit

theorem infoC : (Tryd.prog.info? 60).map (fun i => (i.zero, i.size, i.bytes)) = some (some (.agg #[.string ⟨#[]⟩, .string ⟨#[]⟩, .slice none 0 0, .slice none 0 0, .int .i64 0, .int .i64 0, .slice none 0 0]), 7, 120) := by kernel_rfl
theorem grownBy_trans' {a b c : World} {r : Option Nat} (h : a.grownBy b r) (k : b.grownBy c r) : a.grownBy c r :=
  ⟨k.os.trans h.os, k.tape.trans h.tape, k.output.trans h.output, Nat.le_trans h.size k.size, fun j hj hne => by
    rw [k.block j (Nat.lt_of_lt_of_le hj h.size) hne, h.block j hj hne]⟩
theorem Fresh.grownBy' {w w' : World} (hf : Fresh w w') (row : Option Nat) : w.grownBy w' row := ⟨hf.os, hf.tape, hf.output, hf.size, fun k hk _ => hf.block k hk⟩
/-- A pod's own box, and that of the answer. -/
structure DPre (ty : Nat) (w W0 : World) (name ns : ByteArray) (rs gr : Int) (ho : Bool) (a : Option Addr) (n cap : Nat) : Prop where
  at1 : W0.heap[w.heap.size]? = some (.cells #[.string name, .string ns, .int .i64 rs, .int .i64 gr, .bool ho, .slice a n cap] ty)
  at2 : W0.heap[w.heap.size + 1]? = some (.cells #[.string ⟨#[]⟩, .string ⟨#[]⟩, .int .i64 0, .int .i64 0, .bool false, .slice none 0 0] ty)
  fr : Fresh w W0
  sz : W0.heap.size = w.heap.size + 2
theorem dpre0 (ty : Nat) (w : World) (name ns : ByteArray) (rs gr : Int) (ho : Bool) (a : Option Addr) (n cap : Nat) :
    DPre ty w ((w.alloc (.cells #[.string name, .string ns, .int .i64 rs, .int .i64 gr, .bool ho, .slice a n cap] ty)).alloc (.cells #[.string ⟨#[]⟩, .string ⟨#[]⟩, .int .i64 0, .int .i64 0, .bool false, .slice none 0 0] ty)) name ns rs gr ho a n cap where
  at1 := at_alloc (at_new _ _)
  at2 := by have := at_new (w.alloc (.cells #[.string name, .string ns, .int .i64 rs, .int .i64 gr, .bool ho, .slice a n cap] ty)) (.cells #[.string ⟨#[]⟩, .string ⟨#[]⟩, .int .i64 0, .int .i64 0, .bool false, .slice none 0 0] ty); rw [World.size_alloc] at this; exact this
  fr := ((Fresh.refl w).alloc _).alloc _
  sz := by simp
theorem DPre.setNs {ty : Nat} {w W0 : World} {name ns : ByteArray} {rs gr : Int} {ho : Bool} {a : Option Addr} {n cap : Nat} (h : DPre ty w W0 name ns rs gr ho a n cap) (s : ByteArray) : DPre ty w (W0.setCell ⟨w.heap.size, 1, none⟩ (.string s)) name s rs gr ho a n cap where
  at1 := by simp [World.setCell, Array.getElem?_modify, h.at1]
  at2 := by simp [World.setCell, Array.getElem?_modify, h.at2]
  fr := h.fr.setCell (p := ⟨w.heap.size, 1, none⟩) (Nat.le_refl _) _
  sz := by simp [h.sz]
theorem DPre.setGr {ty : Nat} {w W0 : World} {name ns : ByteArray} {rs gr : Int} {ho : Bool} {a : Option Addr} {n cap : Nat} (h : DPre ty w W0 name ns rs gr ho a n cap) (s : Int) : DPre ty w (W0.setCell ⟨w.heap.size, 3, none⟩ (.int .i64 s)) name ns rs s ho a n cap where
  at1 := by simp [World.setCell, Array.getElem?_modify, h.at1]
  at2 := by simp [World.setCell, Array.getElem?_modify, h.at2]
  fr := h.fr.setCell (p := ⟨w.heap.size, 3, none⟩) (Nat.le_refl _) _
  sz := by simp [h.sz]
theorem box6p {w : World} {b ty : Nat} {name ns : ByteArray} {rs gr : Int} {ho : Bool} {a : Option Addr} {n cap : Nat} (h : w.heap[b]? = some (.cells #[.string name, .string ns, .int .i64 rs, .int .i64 gr, .bool ho, .slice a n cap] ty)) :
    (w.cell? ⟨b, 0, none⟩ = some (.string name) ∧ w.cell? ⟨b, 1, none⟩ = some (.string ns) ∧ w.cell? ⟨b, 2, none⟩ = some (.int .i64 rs) ∧ w.cell? ⟨b, 3, none⟩ = some (.int .i64 gr) ∧ w.cell? ⟨b, 4, none⟩ = some (.bool ho) ∧ w.cell? ⟨b, 5, none⟩ = some (.slice a n cap)) ∧ ∀ i, w.frozen? ⟨b, i, none⟩ = false :=
  ⟨⟨cell_of_at h rfl, cell_of_at h rfl, cell_of_at h rfl, cell_of_at h rfl, cell_of_at h rfl, cell_of_at h rfl⟩, fun i => by simp [World.frozen?, h]⟩
theorem at_set {W : World} {b : Nat} {cs : Array Value} {t : TypeId} {z : Nat × Nat} (h : W.heap[b]? = some (.cells cs t z)) (i : Nat) (v : Value) : (W.setCell ⟨b, i, none⟩ v).heap[b]? = some (.cells (cs.setIfInBounds i v) t z) := by
  simp [World.setCell, Array.getElem?_modify, h]
/-- A container's box. -/
def Box7 (ty : Nat) (w : World) (b : Nat) (s0 s1 : ByteArray) (v2 v3 : Value) (n4 n5 : Int) (v6 : Value) : Prop := w.heap[b]? = some (.cells #[.string s0, .string s1, v2, v3, .int .i64 n4, .int .i64 n5, v6] ty)
theorem Box7.cells {ty : Nat} {w : World} {b : Nat} {s0 s1 : ByteArray} {v2 v3 : Value} {n4 n5 : Int} {v6 : Value} (h : Box7 ty w b s0 s1 v2 v3 n4 n5 v6) :
    (w.cell? ⟨b, 0, none⟩ = some (.string s0) ∧ w.cell? ⟨b, 1, none⟩ = some (.string s1) ∧ w.cell? ⟨b, 2, none⟩ = some v2 ∧ w.cell? ⟨b, 3, none⟩ = some v3 ∧ w.cell? ⟨b, 4, none⟩ = some (.int .i64 n4) ∧ w.cell? ⟨b, 5, none⟩ = some (.int .i64 n5) ∧ w.cell? ⟨b, 6, none⟩ = some v6) ∧ ∀ i, w.frozen? ⟨b, i, none⟩ = false :=
  ⟨⟨cell_of_at h rfl, cell_of_at h rfl, cell_of_at h rfl, cell_of_at h rfl, cell_of_at h rfl, cell_of_at h rfl, cell_of_at h rfl⟩, fun i => by simp [World.frozen?, show w.heap[b]? = _ from h]⟩
theorem box7_set (ty : Nat) (w : World) (s0 s1 : ByteArray) (v2 v3 : Value) (n4 n5 : Int) (v6 : Value) :
    Box7 ty ((((((((w.alloc (.cells #[.string ⟨#[]⟩, .string ⟨#[]⟩, .slice none 0 0, .slice none 0 0, .int .i64 0, .int .i64 0, .slice none 0 0] ty)).setCell ⟨w.heap.size, 0, none⟩ (.string s0)).setCell ⟨w.heap.size, 1, none⟩ (.string s1)).setCell ⟨w.heap.size, 2, none⟩ v2).setCell ⟨w.heap.size, 3, none⟩ v3).setCell ⟨w.heap.size, 4, none⟩ (.int .i64 n4)).setCell ⟨w.heap.size, 5, none⟩ (.int .i64 n5)).setCell ⟨w.heap.size, 6, none⟩ v6) w.heap.size s0 s1 v2 v3 n4 n5 v6 ∧
    Fresh w ((((((((w.alloc (.cells #[.string ⟨#[]⟩, .string ⟨#[]⟩, .slice none 0 0, .slice none 0 0, .int .i64 0, .int .i64 0, .slice none 0 0] ty)).setCell ⟨w.heap.size, 0, none⟩ (.string s0)).setCell ⟨w.heap.size, 1, none⟩ (.string s1)).setCell ⟨w.heap.size, 2, none⟩ v2).setCell ⟨w.heap.size, 3, none⟩ v3).setCell ⟨w.heap.size, 4, none⟩ (.int .i64 n4)).setCell ⟨w.heap.size, 5, none⟩ (.int .i64 n5)).setCell ⟨w.heap.size, 6, none⟩ v6) := by
  refine ⟨?_, ?_⟩
  · have h := at_new w (.cells #[.string ⟨#[]⟩, .string ⟨#[]⟩, .slice none 0 0, .slice none 0 0, .int .i64 0, .int .i64 0, .slice none 0 0] ty)
    exact at_set (at_set (at_set (at_set (at_set (at_set (at_set h 0 (.string s0)) 1 (.string s1)) 2 v2) 3 v3) 4 (.int .i64 n4)) 5 (.int .i64 n5)) 6 v6
  · repeat (refine Fresh.setCell ?_ (by exact Nat.le_refl _) _)
    exact (Fresh.refl w).alloc _
theorem Box7.set4 {ty : Nat} {w W : World} {s0 s1 : ByteArray} {v2 v3 : Value} {n4 n5 : Int} {v6 : Value} (h : Box7 ty W w.heap.size s0 s1 v2 v3 n4 n5 v6 ∧ Fresh w W) (m : Int) : Box7 ty (W.setCell ⟨w.heap.size, 4, none⟩ (.int .i64 m)) w.heap.size s0 s1 v2 v3 m n5 v6 ∧ Fresh w (W.setCell ⟨w.heap.size, 4, none⟩ (.int .i64 m)) :=
  ⟨by have := h.1; simp [Box7, World.setCell, Array.getElem?_modify, show W.heap[w.heap.size]? = _ from this], h.2.setCell (p := ⟨w.heap.size, 4, none⟩) (Nat.le_refl _) _⟩
theorem Box7.set5 {ty : Nat} {w W : World} {s0 s1 : ByteArray} {v2 v3 : Value} {n4 n5 : Int} {v6 : Value} (h : Box7 ty W w.heap.size s0 s1 v2 v3 n4 n5 v6 ∧ Fresh w W) (m : Int) : Box7 ty (W.setCell ⟨w.heap.size, 5, none⟩ (.int .i64 m)) w.heap.size s0 s1 v2 v3 n4 m v6 ∧ Fresh w (W.setCell ⟨w.heap.size, 5, none⟩ (.int .i64 m)) :=
  ⟨by have := h.1; simp [Box7, World.setCell, Array.getElem?_modify, show W.heap[w.heap.size]? = _ from this], h.2.setCell (p := ⟨w.heap.size, 5, none⟩) (Nat.le_refl _) _⟩
def CM.dft (m : CM) : CM := { m with c := defC m.c }
theorem dft_in {w : World} {m : CM} (h : m.In w) : m.dft.In w := ⟨h.cmd, h.ports, h.env, h.room⟩
/-- A row of containers that the call owns. -/
def CBuf (ty : Nat) (w : World) (B : Nat) (v : Value) (l : List CM) : Prop := w.ownsRow B ty 7 v l.length (ccells l)
theorem CBuf.fresh {ty : Nat} {w w' : World} {B : Nat} {v : Value} {l : List CM} (h : CBuf ty w B v l) (hf : Fresh w w') : CBuf ty w' B v l := by
  refine World.ownsRow.kept (row := none) h (hf.grownBy' none) ?_
  rcases h' : v.ownBlock with _ | g
  · exact .inl rfl
  · exact .inr (by simp)
theorem cbuf_shape {ty : Nat} {w : World} {B : Nat} {v : Value} {l : List CM} (h : CBuf ty w B v l) : ∃ o c, v = .slice o l.length c := by
  rcases h.2 with ⟨h1, h2⟩ | ⟨g, cap, c2, h1, _⟩
  · exact ⟨none, 0, by rw [h1, h2]⟩
  · exact ⟨_, _, h1⟩
theorem CBuf.more {ty : Nat} {w' : World} {B : Nat} {v : Value} {l : List CM} {m : CM} (h : w'.ownsRow B ty 7 v (l.length + 1) (ccells l ++ m.cells)) : CBuf ty w' B v (l ++ [m]) := by
  unfold CBuf
  rw [show ccells (l ++ [m]) = ccells l ++ m.cells by simp [ccells], List.length_append]
  exact h
theorem own_le {w : World} {B : Nat} {t : TypeId} {k n c : Nat} {o : Option Addr} {xs : List Value} (h : w.ownsRow B t k (.slice o n c) n xs) : n ≤ c := by
  rcases h.2 with ⟨e, hn⟩ | ⟨g, cap, cur, e, _, _, hn, _⟩
  · cases e; omega
  · cases e; exact hn
theorem news7 (w : World) (t : Nat) (l : List Value) : ∀ j u, l[j]? = some u → (w.alloc (.cells l.toArray t)).cell? ((⟨w.heap.size, 0, none⟩ : Addr).add j) = some u := fun j u hj => by
  rw [addr_add0]
  exact cell_of_at (at_new w (.cells l.toArray t)) (by simpa using hj)
end Go.Proofs.YtfhhmajkacjbgaaDoor
