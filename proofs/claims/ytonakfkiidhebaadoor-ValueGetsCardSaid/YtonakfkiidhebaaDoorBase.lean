/-
  How a value (package value's, and the document's) lies in memory. Plain facts, no call.
-/
import Derived.Test.YtonakfkiidhebaaDoorRows
import Derived.Test.YtonakfkiidhebaaDoorMath
import Derived.WalkKit
import Derived.ProofKit
import Derived.OpenShut
import Derived.ShutString
import Derived.WalkSpells
import Derived.WalkLawsBesides
import Derived.LoopTactic
import Derived.Lib.Hide
import Derived.Below
import Derived.Deep.OwnRows
import Derived.Deep.AppendLies
import Derived.Deep.QuietTactic
import Derived.BigQuiet
import Derived.Deep.LoopGhost
import Derived.Deep.Draws
namespace Go.Proofs.YtonakfkiidhebaaDoor
open Go.ChangeShapes Go.WideShapes Go.ChangeAt Go.RowKit

/-- Of what was there nothing has turned; there may be new blocks. -/
def Fresh (w w' : World) : Prop := Below w.heap.size w w'
theorem Fresh.refl (w : World) : Fresh w w := Below.refl _ _
theorem Fresh.trans {a b c : World} (h : Fresh a b) (k : Fresh b c) : Fresh a c := Below.trans h (Below.mono k h.size)
theorem Fresh.alloc {a b : World} (h : Fresh a b) (o : Obj) : Fresh a (b.alloc o) := Below.alloc h h.size o
theorem Fresh.setCell {a b : World} (h : Fresh a b) {p : Addr} (hp : a.heap.size ≤ p.block) (u : Value) : Fresh a (b.setCell p u) := Below.setCell h hp u
theorem Fresh.drew {a b : World} (h : Fresh a b) : Fresh a b.drew := Below.drew h
theorem Fresh.drewN {a b : World} (h : Fresh a b) (n : Nat) : Fresh a (b.drewN n) := ⟨h.os, h.tape, h.output, h.size, h.block⟩
theorem Fresh.at {a b : World} (h : Fresh a b) {k : Nat} {o : Obj} (hk : a.heap[k]? = some o) : b.heap[k]? = some o := by
  rw [h.block k (Array.getElem?_eq_some_iff.1 hk).1]; exact hk
theorem Fresh.cell {a b : World} (h : Fresh a b) {p : Addr} {v : Value} (hc : a.cell? p = some v) : b.cell? p = some v :=
  (Below.cell h (World.block_lt_of_cell? a p hc)).trans hc
theorem lt_of_at {w : World} {k : Nat} {o : Obj} (hk : w.heap[k]? = some o) : k < w.heap.size := (Array.getElem?_eq_some_iff.1 hk).1
theorem at_alloc {w : World} {k : Nat} {o p : Obj} (hk : w.heap[k]? = some o) : (w.alloc p).heap[k]? = some o := by
  rw [Below.heap_alloc _ _ _ (lt_of_at hk)]; exact hk
theorem at_new (w : World) (o : Obj) : (w.alloc o).heap[w.heap.size]? = some o := by
  show (w.heap.push o)[w.heap.size]? = _
  simp
theorem cell_of_at {w : World} {b : Nat} {cs : Array Value} {t : TypeId} {z : Nat × Nat} (h : w.heap[b]? = some (.cells cs t z)) {i : Nat} {v : Value} (hi : cs[i]? = some v) : w.cell? ⟨b, i, none⟩ = some v := by
  simp [World.cell?, h, hi]
theorem addr_add (b off n : Nat) : (⟨b, off, none⟩ : Addr).add n = ⟨b, off + n, none⟩ := by
  unfold Addr.add
  split <;> simp_all
theorem addr_add0 (b n : Nat) : (⟨b, 0, none⟩ : Addr).add n = ⟨b, n, none⟩ := by rw [addr_add, Nat.zero_add]
theorem grown_set (w : World) (g o : Nat) (u : Value) : w.grownBy (w.setCell ⟨g, o, none⟩ u) (some g) :=
  ⟨rfl, rfl, rfl, by simp [World.setCell], fun k _ hk => Below.heap_setCell _ _ _ _ (fun e => hk (by rw [e]))⟩
theorem Fresh.grown {a b c : World} {r : Option Nat} (h : Fresh a b) (k : b.grownBy c r) (hr : ∀ g, r = some g → a.heap.size ≤ g) : Fresh a c :=
  Below.grown h k h.size hr

/-! ### values in memory -/
inductive M where
  | mk (kind : Int) (flag : Bool) (num : Int) (text : ByteArray) (la : Option Addr) (lc : Nat) (list : List M) (ka : Option Addr) (kc : Nat) (keys : List (ByteArray × M))
def M.kind : M → Int | .mk k _ _ _ _ _ _ _ _ _ => k
def M.list : M → List M | .mk _ _ _ _ _ _ l _ _ _ => l
def M.keys : M → List (ByteArray × M) | .mk _ _ _ _ _ _ _ _ _ ks => ks
def M.cells : M → List Value | .mk k f n s la lc l ka kc ks => [.int .i64 k, .bool f, .int .i64 n, .string s, .slice la l.length lc, .slice ka ks.length kc]
abbrev mval (k : Int) (f : Bool) (n : Int) (s : ByteArray) (la : Option Addr) (ln lc : Nat) (ka : Option Addr) (kn kc : Nat) : Value := .agg #[.int .i64 k, .bool f, .int .i64 n, .string s, .slice la ln lc, .slice ka kn kc]
def M.val : M → Value | .mk k f n s la lc l ka kc ks => mval k f n s la l.length lc ka ks.length kc
mutual
def M.plain : M → V | .mk k f n s _ _ l _ _ ks => .mk k f n s (plainL l) (plainK ks)
def plainL : List M → List V
  | [] => []
  | m :: l => m.plain :: plainL l
def plainK : List (ByteArray × M) → List (ByteArray × V)
  | [] => []
  | (s, m) :: l => (s, m.plain) :: plainK l
end
theorem plainL_eq (l : List M) : plainL l = l.map M.plain := by
  induction l with
  | nil => rfl
  | cons m l ih => simp only [plainL, List.map_cons, ih]
theorem plainK_eq (l : List (ByteArray × M)) : plainK l = l.map fun p => (p.1, p.2.plain) := by
  induction l with
  | nil => rfl
  | cons m l ih => obtain ⟨s, m⟩ := m; simp only [plainK, List.map_cons, ih]
def M.inside (m : M) : List M := if m.kind = 4 then m.list else if m.kind = 5 then m.keys.map (·.2) else []
theorem plain_kind (m : M) : m.plain.kind = m.kind := by obtain ⟨k, f, n, s, la, lc, l, ka, kc, ks⟩ := m; rfl
theorem plain_list (m : M) : m.plain.list = m.list.map M.plain := by obtain ⟨k, f, n, s, la, lc, l, ka, kc, ks⟩ := m; simp [M.plain, V.list, M.list, plainL_eq]
theorem plain_keys (m : M) : m.plain.keys = m.keys.map fun p => (p.1, p.2.plain) := by obtain ⟨k, f, n, s, la, lc, l, ka, kc, ks⟩ := m; simp [M.plain, V.keys, M.keys, plainK_eq]
theorem plain_inside (m : M) : m.plain.inside = m.inside.map M.plain := by
  unfold V.inside M.inside
  rw [plain_kind, plain_list, plain_keys]
  split
  · rfl
  split
  · simp
  · rfl
theorem plain_names (m : M) : m.plain.keys.map (·.1) = m.keys.map (·.1) := by rw [plain_keys]; simp

/-- A slice at a reads as these cells. -/
def RowAt (w : World) (a : Option Addr) (cs : List Value) : Prop :=
  (a = none ∧ cs = []) ∨ ∃ g, a = some ⟨g, 0, none⟩ ∧ ∀ j x, cs[j]? = some x → w.cell? ⟨g, j, none⟩ = some x
theorem RowAt.move {w w' : World} {a : Option Addr} {cs : List Value} (h : RowAt w a cs) (f : Fresh w w') : RowAt w' a cs := by
  rcases h with h | ⟨g, e, h⟩
  · exact .inl h
  · exact .inr ⟨g, e, fun j x hj => f.cell (h j x hj)⟩
theorem RowAt.nil (w : World) : RowAt w none [] := .inl ⟨rfl, rfl⟩
theorem RowAt.none {w : World} {cs : List Value} (h : RowAt w none cs) : cs = [] := by
  rcases h with ⟨_, h⟩ | ⟨g, e, _⟩
  · exact h
  · cases e
theorem RowAt.owns {w : World} {B : Nat} {t : TypeId} {k n m c : Nat} {a : Option Addr} {xs : List Value} (h : w.ownsRow B t k (.slice a m c) n xs) : RowAt w a xs := by
  rcases h.2 with ⟨e, hn⟩ | ⟨g, cap, cur, e, _⟩
  · cases e
    have := h.1
    rw [hn] at this
    exact .inl ⟨rfl, List.eq_nil_of_length_eq_zero (by simpa using this)⟩
  · cases e
    exact .inr ⟨g, rfl, fun j x hj => by rw [← addr_add0]; exact h.cells (g := g) rfl j x hj⟩
def mcells (l : List M) : List Value := l.flatMap M.cells
def pcellsOf (p : ByteArray × M) : List Value := .string p.1 :: p.2.cells
def pcells (l : List (ByteArray × M)) : List Value := l.flatMap pcellsOf
theorem cells_length (m : M) : m.cells.length = 6 := by obtain ⟨k, f, n, s, la, lc, l, ka, kc, ks⟩ := m; rfl
theorem flat_length {α : Type} (f : α → List Value) (k : Nat) (h : ∀ x, (f x).length = k) (l : List α) : (l.flatMap f).length = l.length * k := by
  induction l with
  | nil => simp
  | cons a l ih => simp only [List.flatMap_cons, List.length_append, ih, h, List.length_cons, Nat.succ_mul]; omega
theorem flat_get {α : Type} (f : α → List Value) (k : Nat) (h : ∀ x, (f x).length = k) (l : List α) : ∀ (i : Nat) (hi : i < l.length) (j : Nat), j < k → (l.flatMap f)[i * k + j]? = (f l[i])[j]? := by
  induction l with
  | nil => intro i hi; simp at hi
  | cons a l ih =>
    intro i hi j hj
    rw [List.flatMap_cons]
    cases i with
    | zero => rw [List.getElem?_append_left (by rw [h]; omega)]; simp
    | succ i =>
      have e : (i + 1) * k + j = k + (i * k + j) := by rw [Nat.succ_mul]; omega
      rw [List.getElem?_append_right (by rw [h]; omega), h, e, Nat.add_sub_cancel_left]
      exact ih i (by simpa using hi) j hj
theorem flat_snoc {α : Type} (f : α → List Value) (l : List α) (x : α) : (l ++ [x]).flatMap f = l.flatMap f ++ f x := by simp
theorem mcells_length (l : List M) : (mcells l).length = l.length * 6 := flat_length _ _ cells_length l
theorem pcells_length (l : List (ByteArray × M)) : (pcells l).length = l.length * 7 := flat_length _ _ (fun p => by simp [pcellsOf, cells_length]) l
theorem mcells_snoc (l : List M) (m : M) : mcells (l ++ [m]) = mcells l ++ m.cells := flat_snoc _ _ _
theorem pcells_snoc (l : List (ByteArray × M)) (p : ByteArray × M) : pcells (l ++ [p]) = pcells l ++ pcellsOf p := flat_snoc _ _ _
/-- The six cells of a value lie at a place. -/
def M.lies (w : World) (g o : Nat) : M → Prop
  | .mk k f n s la lc l ka kc ks => w.cell? ⟨g, o, none⟩ = some (.int .i64 k) ∧ w.cell? ⟨g, o + 1, none⟩ = some (.bool f) ∧ w.cell? ⟨g, o + 2, none⟩ = some (.int .i64 n) ∧ w.cell? ⟨g, o + 3, none⟩ = some (.string s) ∧ w.cell? ⟨g, o + 4, none⟩ = some (.slice la l.length lc) ∧ w.cell? ⟨g, o + 5, none⟩ = some (.slice ka ks.length kc)
theorem M.lies.of {w : World} {g o : Nat} (m : M) (h : ∀ j x, m.cells[j]? = some x → w.cell? ⟨g, o + j, none⟩ = some x) : m.lies w g o := by
  obtain ⟨k, f, n, s, la, lc, l, ka, kc, ks⟩ := m
  exact ⟨h 0 _ rfl, h 1 _ rfl, h 2 _ rfl, h 3 _ rfl, h 4 _ rfl, h 5 _ rfl⟩
theorem M.lies.move {w w' : World} {g o : Nat} {m : M} (h : m.lies w g o) (f : Fresh w w') : m.lies w' g o := by
  obtain ⟨k, fl, n, s, la, lc, l, ka, kc, ks⟩ := m
  obtain ⟨h0, h1, h2, h3, h4, h5⟩ := h
  exact ⟨f.cell h0, f.cell h1, f.cell h2, f.cell h3, f.cell h4, f.cell h5⟩
theorem mrow_get {w : World} {g : Nat} {l : List M} (h : RowAt w (some ⟨g, 0, none⟩) (mcells l)) (i : Nat) (hi : i < l.length) : l[i].lies w g (i * 6) := by
  rcases h with ⟨e, _⟩ | ⟨g', e, h⟩
  · cases e
  · cases e
    refine M.lies.of _ fun j x hj => h _ _ ?_
    have hj6 : j < 6 := by rw [← cells_length l[i]]; exact (List.getElem?_eq_some_iff.1 hj).1
    unfold mcells
    rw [flat_get M.cells 6 cells_length l i hi j hj6]; exact hj
theorem prow_get {w : World} {g : Nat} {l : List (ByteArray × M)} (h : RowAt w (some ⟨g, 0, none⟩) (pcells l)) (i : Nat) (hi : i < l.length) : w.cell? ⟨g, i * 7, none⟩ = some (.string l[i].1) ∧ l[i].2.lies w g (i * 7 + 1) := by
  have hp : ∀ p : ByteArray × M, (pcellsOf p).length = 7 := fun p => by simp [pcellsOf, cells_length]
  rcases h with ⟨e, _⟩ | ⟨g', e, h⟩
  · cases e
  · cases e
    have hg : ∀ j x, (pcellsOf l[i])[j]? = some x → w.cell? ⟨g, i * 7 + j, none⟩ = some x := fun j x hj => h _ _ (by
      have hj7 : j < 7 := by rw [← hp l[i]]; exact (List.getElem?_eq_some_iff.1 hj).1
      unfold pcells
      rw [flat_get pcellsOf 7 hp l i hi j hj7]; exact hj)
    refine ⟨hg 0 _ rfl, M.lies.of _ fun j x hj => ?_⟩
    have := hg (j + 1) x (by simpa [pcellsOf] using hj)
    rw [Nat.add_right_comm, Nat.add_assoc]; exact this

/-- A value's own rows lie in memory, and those of all values in it. -/
inductive M.At (w : World) : M → Prop
  | mk {k : Int} {f : Bool} {n : Int} {s : ByteArray} {la : Option Addr} {lc : Nat} {l : List M} {ka : Option Addr} {kc : Nat} {ks : List (ByteArray × M)}
    (hs : s.size ≤ 1000000) (hl : RowAt w la (mcells l)) (hk : RowAt w ka (pcells ks)) (ll : l.length ≤ 1000000) (lk : ks.length ≤ 1000000) (hn : ∀ p ∈ ks, p.1.size ≤ 1000000)
    (ml : ∀ m ∈ l, M.At w m) (mk : ∀ p ∈ ks, M.At w p.2) : M.At w (.mk k f n s la lc l ka kc ks)
theorem M.At.move {w w' : World} {m : M} (h : m.At w) (f : Fresh w w') : m.At w' := by
  induction h with
  | mk hs hl hk ll lk hn ml mk ihl ihk => exact .mk hs (hl.move f) (hk.move f) ll lk hn ihl ihk
theorem M.At.parts {w : World} {k : Int} {f : Bool} {n : Int} {s : ByteArray} {la : Option Addr} {lc : Nat} {l : List M} {ka : Option Addr} {kc : Nat} {ks : List (ByteArray × M)} (h : (M.mk k f n s la lc l ka kc ks).At w) :
    s.size ≤ 1000000 ∧ RowAt w la (mcells l) ∧ RowAt w ka (pcells ks) ∧ l.length ≤ 1000000 ∧ ks.length ≤ 1000000 ∧ (∀ p ∈ ks, p.1.size ≤ 1000000) ∧ (∀ m ∈ l, M.At w m) ∧ (∀ p ∈ ks, M.At w p.2) := by
  cases h with
  | mk hs hl hk ll lk hn ml mk => exact ⟨hs, hl, hk, ll, lk, hn, ml, mk⟩
theorem M.At.inside {w : World} {m : M} (h : m.At w) : ∀ x ∈ m.inside, x.At w := by
  obtain ⟨k, f, n, s, la, lc, l, ka, kc, ks⟩ := m
  obtain ⟨_, _, _, _, _, _, ml, mk⟩ := h.parts
  intro x hx
  unfold M.inside at hx
  split at hx
  · exact ml x hx
  split at hx
  · obtain ⟨p, hp, rfl⟩ := List.mem_map.1 hx
    exact mk p hp
  · cases hx
theorem M.At.len {w : World} {m : M} (h : m.At w) : m.inside.length ≤ 1000000 := by
  obtain ⟨k, f, n, s, la, lc, l, ka, kc, ks⟩ := m
  obtain ⟨_, _, _, ll, lk, _⟩ := h.parts
  unfold M.inside
  split
  · exact ll
  split
  · rw [List.length_map]; exact lk
  · simp
/-- The zero value. -/
def M.zero : M := .mk 0 false 0 ⟨#[]⟩ none 0 [] none 0 []
theorem zero_at (w : World) : M.zero.At w := .mk (by decide) (.nil w) (.nil w) (by simp) (by simp) (fun _ h => by cases h) (fun _ h => by cases h) (fun _ h => by cases h)

/-! ### rows of the call's own -/
theorem owns_move {B : Nat} {t : TypeId} {n k : Nat} {w w' : World} {v : Value} {xs : List Value} (h : w.ownsRow B t k v n xs) (f : Fresh w w') : w'.ownsRow B t k v n xs :=
  h.kept (row := none) ⟨f.os, f.tape, f.output, f.size, fun i hi _ => f.block i hi⟩ (by cases hv : v.ownBlock <;> simp)
theorem owns_slice {B : Nat} {t : TypeId} {n k : Nat} {w : World} {v : Value} {xs : List Value} (h : w.ownsRow B t k v n xs) : ∃ a c, v = .slice a n c := by
  rcases h.2 with ⟨e1, e2⟩ | ⟨g, cap, cur, e1, _⟩
  · exact ⟨none, 0, by rw [e1, e2]⟩
  · exact ⟨_, _, e1⟩
theorem owns_mono {B B' : Nat} {t : TypeId} {n k : Nat} {w : World} {v : Value} {xs : List Value} (h : w.ownsRow B t k v n xs) (hB : B' ≤ B) : w.ownsRow B' t k v n xs := by
  obtain ⟨h1, h2⟩ := h
  refine ⟨h1, h2.imp_right ?_⟩
  rintro ⟨g, cap, cur, e, hb, r⟩
  exact ⟨g, cap, cur, e, Nat.le_trans hB hb, r⟩
/-- A row that was built: whole, with no room. -/
theorem owns_built {B : Nat} {t : TypeId} {k n : Nat} {w : World} {g : Nat} {cs : Array Value} (h : w.heap[g]? = some (.cells cs t (0, 0))) (hB : B ≤ g) (hk : cs.size = n * k) (hn : n ≤ maxLen) : w.ownsRow B t k (.slice (some ⟨g, 0, none⟩) n n) n cs.toList :=
  ⟨by simpa using hk, .inr ⟨g, n, cs, rfl, hB, h, Nat.le_refl _, hn, hk, by rw [List.take_of_length_le (by simp [hk])]⟩⟩
/-- All but the last of a row. -/
theorem owns_pop {B : Nat} {t : TypeId} {k n m c : Nat} {w : World} {a : Option Addr} {xs ys : List Value} (h : w.ownsRow B t k (.slice a m c) (n + 1) (xs ++ ys)) (hy : ys.length = k) : w.ownsRow B t k (.slice a n c) n xs := by
  obtain ⟨h1, h2⟩ := h
  have hx : xs.length = n * k := by simp [hy, Nat.succ_mul] at h1; omega
  refine ⟨hx, .inr ?_⟩
  rcases h2 with ⟨_, e⟩ | ⟨g, cap, cur, e, hb, hh, hn, hc, hs, ht⟩
  · omega
  · cases e
    refine ⟨g, c, cur, rfl, hb, hh, by omega, hc, hs, ?_⟩
    have hle : n * k ≤ (n + 1) * k := Nat.mul_le_mul_right k (by omega)
    have := congrArg (List.take (n * k)) ht
    rw [List.take_take, Nat.min_eq_left hle] at this
    rw [this, ← hx, List.take_left]
/-- Behind an append to a row of the call's own. -/
theorem own_grown {W w1 w2 : World} {B : Nat} {t : TypeId} {k n : Nat} {v : Value} {xs : List Value} (hB : W.heap.size ≤ B) (h : w1.ownsRow B t k v n xs) (hfr : Fresh W w1) (hg : w1.grownBy w2 v.ownBlock) : Fresh W w2 :=
  hfr.grown hg (fun g e => by have := (h.lt g e).1; omega)
end Go.Proofs.YtonakfkiidhebaaDoor
