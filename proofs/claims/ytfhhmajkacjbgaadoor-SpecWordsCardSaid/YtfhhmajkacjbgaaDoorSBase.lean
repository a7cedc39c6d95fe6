/-
  Pods in memory.
-/
import Derived.Test.YtfhhmajkacjbgaaDoorDBase
import Derived.Test.YtfhhmajkacjbgaaDoorSMath
namespace Go.Proofs.YtfhhmajkacjbgaaDoor
open Go.ChangeShapes Go.WideShapes Go.ChangeAt Go.RowKit

theorem Fresh.cell {a b : World} (h : Fresh a b) {p : Addr} {v : Value} (hc : a.cell? p = some v) : b.cell? p = some v :=
  (Below.cell h (World.block_lt_of_cell? a p hc)).trans hc
theorem Fresh.at {a b : World} (h : Fresh a b) {k : Nat} {o : Obj} (hk : a.heap[k]? = some o) : b.heap[k]? = some o := by
  rw [h.block k (Array.getElem?_eq_some_iff.1 hk).1]; exact hk
theorem addr_add (b off n : Nat) : (⟨b, off, none⟩ : Addr).add n = ⟨b, off + n, none⟩ := by
  unfold Addr.add
  split <;> simp_all
/-- A slice at a reads as these cells, wherever it begins. -/
def RowAt (w : World) (a : Option Addr) (cs : List Value) : Prop :=
  cs = [] ∨ ∃ g o, a = some ⟨g, o, none⟩ ∧ ∀ j x, cs[j]? = some x → w.cell? ⟨g, o + j, none⟩ = some x
theorem RowAt.move {w w' : World} {a : Option Addr} {cs : List Value} (h : RowAt w a cs) (f : Fresh w w') : RowAt w' a cs := by
  rcases h with h | ⟨g, o, e, h⟩
  · exact .inl h
  · exact .inr ⟨g, o, e, fun j x hj => f.cell (h j x hj)⟩
theorem RowAt.nil (w : World) (a : Option Addr) : RowAt w a [] := .inl rfl
theorem RowAt.form {w : World} {a : Option Addr} {cs : List Value} (h : RowAt w a cs) (hne : cs ≠ []) : ∃ g o, a = some ⟨g, o, none⟩ ∧ ∀ j x, cs[j]? = some x → w.cell? ⟨g, o + j, none⟩ = some x := by
  rcases h with h | h
  · exact absurd h hne
  · exact h
theorem RowAt.owns {w : World} {B : Nat} {t : TypeId} {k n m c : Nat} {a : Option Addr} {xs : List Value} (h : w.ownsRow B t k (.slice a m c) n xs) : RowAt w a xs := by
  rcases h.2 with ⟨e, hn⟩ | ⟨g, cap, cur, e, _⟩
  · have := h.1
    rw [hn] at this
    exact .inl (List.eq_nil_of_length_eq_zero (by simpa using this))
  · cases e
    exact .inr ⟨g, 0, rfl, fun j x hj => by rw [Nat.zero_add, ← addr_add0]; exact h.cells (g := g) rfl j x hj⟩
theorem flat_length {α : Type} (f : α → List Value) (k : Nat) (h : ∀ x, (f x).length = k) (l : List α) : (l.flatMap f).length = l.length * k := by
  induction l with
  | nil => simp
  | cons a l ih => simp only [List.flatMap_cons, List.length_append, ih, h, List.length_cons, Nat.succ_mul]; omega
theorem flat_get {α : Type} (f : α → List Value) (k : Nat) (h : ∀ x, (f x).length = k) (l : List α) : ∀ (i : Nat) (hi : i < l.length) (j : Nat), j < k → (l.flatMap f)[i * k + j]? = (f l[i])[j]? := by
  induction l with
  | nil => intro i hi; simp at hi
  | cons a l ih =>
    intro i hi j hj
    rw [List.flatMap_cons]
    cases i with
    | zero => rw [List.getElem?_append_left (by rw [h]; omega)]; simp
    | succ i =>
      have e : (i + 1) * k + j = k + (i * k + j) := by rw [Nat.succ_mul]; omega
      rw [List.getElem?_append_right (by rw [h]; omega), h, e, Nat.add_sub_cancel_left]
      exact ih i (by simpa using hi) j hj

/-! ### the rows of a container -/
def tcell (s : ByteArray) : List Value := [.string s]
def pcell (p : Int × Int) : List Value := [.int .i64 p.1, .int .i64 p.2]
def ecell (p : ByteArray × ByteArray) : List Value := [.string p.1, .string p.2]
def tcells (l : List ByteArray) : List Value := l.flatMap tcell
def pcells (l : List (Int × Int)) : List Value := l.flatMap pcell
def ecells (l : List (ByteArray × ByteArray)) : List Value := l.flatMap ecell
/-- A container, with where its rows lie. -/
structure CM where
  c : Ct
  ca : Option Addr
  cc : Nat
  pa : Option Addr
  pc : Nat
  ea : Option Addr
  ec : Nat
def CM.cells (m : CM) : List Value := [.string m.c.name, .string m.c.image, .slice m.ca m.c.cmd.length m.cc, .slice m.pa m.c.ports.length m.pc, .int .i64 m.c.cpu, .int .i64 m.c.mem, .slice m.ea m.c.env.length m.ec]
def CM.val (m : CM) : Value := .agg #[.string m.c.name, .string m.c.image, .slice m.ca m.c.cmd.length m.cc, .slice m.pa m.c.ports.length m.pc, .int .i64 m.c.cpu, .int .i64 m.c.mem, .slice m.ea m.c.env.length m.ec]
/-- Its rows lie in memory; nothing of it is great. -/
structure CM.In (w : World) (m : CM) : Prop where
  cmd : RowAt w m.ca (tcells m.c.cmd)
  ports : RowAt w m.pa (pcells m.c.ports)
  env : RowAt w m.ea (ecells m.c.env)
  room : m.c.ports.length ≤ m.pc
theorem CM.In.move {w w' : World} {m : CM} (h : m.In w) (f : Fresh w w') : m.In w' := ⟨h.cmd.move f, h.ports.move f, h.env.move f, h.room⟩
/-- Not great. -/
structure Ct.Low (c : Ct) : Prop where
  name : c.name.size ≤ 1048576
  image : c.image.size ≤ 1048576
  lc : c.cmd.length ≤ 1048576
  lp : c.ports.length ≤ 1048576
  le : c.env.length ≤ 1048576
  cmd : ∀ s ∈ c.cmd, s.size ≤ 1048576
  env : ∀ v ∈ c.env, v.1.size ≤ 1048576 ∧ v.2.size ≤ 1048576
  icpu : (Lit.int .i64 c.cpu).wf = true
  imem : (Lit.int .i64 c.mem).wf = true
  ip : ∀ p ∈ c.ports, (Lit.int .i64 p.1).wf = true ∧ (Lit.int .i64 p.2).wf = true
def ccells (l : List CM) : List Value := l.flatMap CM.cells
/-- A pod, with where its containers lie. -/
structure PM where
  name : ByteArray
  ns : ByteArray
  restart : Int
  grace : Int
  host : Bool
  a : Option Addr
  cap : Nat
  cs : List CM
def PM.pd (p : PM) : Pd := ⟨p.name, p.ns, p.restart, p.grace, p.host, p.cs.map (·.c)⟩
def PM.val (p : PM) : Value := .agg #[.string p.name, .string p.ns, .int .i64 p.restart, .int .i64 p.grace, .bool p.host, .slice p.a p.cs.length p.cap]
structure PM.At (w : World) (p : PM) : Prop where
  row : RowAt w p.a (ccells p.cs)
  ins : ∀ m ∈ p.cs, m.In w
  le : p.cs.length ≤ p.cap
theorem PM.At.move {w w' : World} {p : PM} (h : p.At w) (f : Fresh w w') : p.At w' := ⟨h.row.move f, fun m hm => (h.ins m hm).move f, h.le⟩
structure PM.Low (p : PM) : Prop where
  name : p.name.size ≤ 1048576
  ns : p.ns.size ≤ 1048576
  ir : (Lit.int .i64 p.restart).wf = true
  ig : (Lit.int .i64 p.grace).wf = true
  len : p.cs.length ≤ 1048576
  cs : ∀ m ∈ p.cs, m.c.Low

/-! ### what lies at a place -/
theorem tcells_len (l : List ByteArray) : (tcells l).length = l.length := by rw [tcells, flat_length tcell 1 (fun _ => rfl)]; omega
theorem pcells_len (l : List (Int × Int)) : (pcells l).length = l.length * 2 := flat_length pcell 2 (fun _ => rfl) l
theorem ecells_len (l : List (ByteArray × ByteArray)) : (ecells l).length = l.length * 2 := flat_length ecell 2 (fun _ => rfl) l
theorem ccells_len (l : List CM) : (ccells l).length = l.length * 7 := flat_length CM.cells 7 (fun _ => rfl) l
theorem tcells_ne {l : List ByteArray} {i : Nat} (h : i < l.length) : tcells l ≠ [] := fun e => by
  have := tcells_len l
  rw [e] at this
  simp at this; omega
theorem pcells_ne {l : List (Int × Int)} {i : Nat} (h : i < l.length) : pcells l ≠ [] := fun e => by
  have := pcells_len l
  rw [e] at this
  simp at this; omega
theorem ecells_ne {l : List (ByteArray × ByteArray)} {i : Nat} (h : i < l.length) : ecells l ≠ [] := fun e => by
  have := ecells_len l
  rw [e] at this
  simp at this; omega
theorem ccells_ne {l : List CM} {i : Nat} (h : i < l.length) : ccells l ≠ [] := fun e => by
  have := ccells_len l
  rw [e] at this
  simp at this; omega
theorem trow_form {w : World} {a : Option Addr} {l : List ByteArray} (h : RowAt w a (tcells l)) {i0 : Nat} (h0 : i0 < l.length) : ∃ g o, a = some ⟨g, o, none⟩ ∧ ∀ i (hi : i < l.length), w.cell? ⟨g, o + i, none⟩ = some (.string l[i]) := by
  obtain ⟨g, o, e, h⟩ := h.form (tcells_ne h0)
  refine ⟨g, o, e, fun i hi => h i _ ?_⟩
  have := flat_get tcell 1 (fun _ => rfl) l i hi 0 (by omega)
  rw [Nat.mul_one, Nat.add_zero] at this
  exact this
theorem prow_form {w : World} {a : Option Addr} {l : List (Int × Int)} (h : RowAt w a (pcells l)) {i0 : Nat} (h0 : i0 < l.length) : ∃ g o, a = some ⟨g, o, none⟩ ∧ ∀ i (hi : i < l.length), w.cell? ⟨g, o + i * 2, none⟩ = some (.int .i64 l[i].1) ∧ w.cell? ⟨g, o + i * 2 + 1, none⟩ = some (.int .i64 l[i].2) := by
  obtain ⟨g, o, e, h⟩ := h.form (pcells_ne h0)
  refine ⟨g, o, e, fun i hi => ⟨h _ _ ?_, ?_⟩⟩
  · exact flat_get pcell 2 (fun _ => rfl) l i hi 0 (by omega)
  · have := h _ _ (flat_get pcell 2 (fun _ => rfl) l i hi 1 (by omega))
    rw [Nat.add_assoc]; exact this
theorem erow_form {w : World} {a : Option Addr} {l : List (ByteArray × ByteArray)} (h : RowAt w a (ecells l)) {i0 : Nat} (h0 : i0 < l.length) : ∃ g o, a = some ⟨g, o, none⟩ ∧ ∀ i (hi : i < l.length), w.cell? ⟨g, o + i * 2, none⟩ = some (.string l[i].1) ∧ w.cell? ⟨g, o + i * 2 + 1, none⟩ = some (.string l[i].2) := by
  obtain ⟨g, o, e, h⟩ := h.form (ecells_ne h0)
  refine ⟨g, o, e, fun i hi => ⟨h _ _ ?_, ?_⟩⟩
  · exact flat_get ecell 2 (fun _ => rfl) l i hi 0 (by omega)
  · have := h _ _ (flat_get ecell 2 (fun _ => rfl) l i hi 1 (by omega))
    rw [Nat.add_assoc]; exact this
/-- The seven cells of a container at a place. -/
def CM.lies (w : World) (g o : Nat) (m : CM) : Prop :=
  w.cell? ⟨g, o, none⟩ = some (.string m.c.name) ∧ w.cell? ⟨g, o + 1, none⟩ = some (.string m.c.image) ∧ w.cell? ⟨g, o + 2, none⟩ = some (.slice m.ca m.c.cmd.length m.cc) ∧ w.cell? ⟨g, o + 3, none⟩ = some (.slice m.pa m.c.ports.length m.pc) ∧
  w.cell? ⟨g, o + 4, none⟩ = some (.int .i64 m.c.cpu) ∧ w.cell? ⟨g, o + 5, none⟩ = some (.int .i64 m.c.mem) ∧ w.cell? ⟨g, o + 6, none⟩ = some (.slice m.ea m.c.env.length m.ec)
theorem crow_form {w : World} {a : Option Addr} {l : List CM} (h : RowAt w a (ccells l)) {i0 : Nat} (h0 : i0 < l.length) : ∃ g o, a = some ⟨g, o, none⟩ ∧ ∀ i (hi : i < l.length), l[i].lies w g (o + i * 7) := by
  obtain ⟨g, o, e, h⟩ := h.form (ccells_ne h0)
  have each : ∀ i (hi : i < l.length) j x, j < 7 → l[i].cells[j]? = some x → w.cell? ⟨g, o + i * 7 + j, none⟩ = some x := fun i hi j x hj hx => by
    have := h _ _ ((flat_get CM.cells 7 (fun _ => rfl) l i hi j hj).trans hx)
    rw [Nat.add_assoc]; exact this
  exact ⟨g, o, e, fun i hi => ⟨each i hi 0 _ (by omega) rfl, each i hi 1 _ (by omega) rfl, each i hi 2 _ (by omega) rfl, each i hi 3 _ (by omega) rfl, each i hi 4 _ (by omega) rfl, each i hi 5 _ (by omega) rfl, each i hi 6 _ (by omega) rfl⟩⟩
/-- A container in a block of its own. -/
theorem box7 {w : World} {b t : Nat} {z : Nat × Nat} {m : CM} (h : w.heap[b]? = some (.cells #[.string m.c.name, .string m.c.image, .slice m.ca m.c.cmd.length m.cc, .slice m.pa m.c.ports.length m.pc, .int .i64 m.c.cpu, .int .i64 m.c.mem, .slice m.ea m.c.env.length m.ec] t z)) : m.lies w b 0 :=
  ⟨cell_of_at h rfl, cell_of_at h rfl, cell_of_at h rfl, cell_of_at h rfl, cell_of_at h rfl, cell_of_at h rfl, cell_of_at h rfl⟩
end Go.Proofs.YtfhhmajkacjbgaaDoor
