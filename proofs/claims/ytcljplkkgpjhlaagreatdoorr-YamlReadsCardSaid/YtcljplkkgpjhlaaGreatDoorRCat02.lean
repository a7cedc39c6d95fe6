/-
  Parts of the proof: VBase YRd YMore YBox YName.
-/
import Derived.Test.YtcljplkkgpjhlaaGreatDoorRRows
import Derived.Test.YtcljplkkgpjhlaaGreatDoorRCat01
import Derived.WalkKit
import Derived.ProofKit
import Derived.OpenShut
import Derived.ShutString
import Derived.WalkSpells
import Derived.WalkLawsBesides
import Derived.LoopTactic
import Derived.Lib.Hide
import Derived.Below
import Derived.Deep.OwnRows
import Derived.Deep.AppendLies
import Derived.Deep.QuietTactic
import Derived.BigQuiet
import Derived.Deep.LoopGhost
import Derived.Deep.Draws
set_option maxRecDepth 100000
set_option maxHeartbeats 8000000
namespace Go.Proofs.YtcljplkkgpjhlaaGreatDoorR
namespace v
open Go.ChangeShapes Go.WideShapes Go.ChangeAt Go.RowKit
def Fresh (w w' : World) : Prop := Below w.heap.size w w'
theorem Fresh.refl (w : World) : Fresh w w := Below.refl _ _
theorem Fresh.trans {a b c : World} (h : Fresh a b) (k : Fresh b c) : Fresh a c := Below.trans h (Below.mono k h.size)
theorem Fresh.alloc {a b : World} (h : Fresh a b) (o : Obj) : Fresh a (b.alloc o) := Below.alloc h h.size o
theorem Fresh.setCell {a b : World} (h : Fresh a b) {p : Addr} (hp : a.heap.size ≤ p.block) (u : Value) : Fresh a (b.setCell p u) := Below.setCell h hp u
theorem Fresh.drew {a b : World} (h : Fresh a b) : Fresh a b.drew := Below.drew h
theorem Fresh.drewN {a b : World} (h : Fresh a b) (n : Nat) : Fresh a (b.drewN n) := ⟨h.os, h.tape, h.output, h.size, h.block⟩
theorem Fresh.at {a b : World} (h : Fresh a b) {k : Nat} {o : Obj} (hk : a.heap[k]? = some o) : b.heap[k]? = some o := by
  rw [h.block k (Array.getElem?_eq_some_iff.1 hk).1]; exact hk
theorem Fresh.cell {a b : World} (h : Fresh a b) {p : Addr} {v : Value} (hc : a.cell? p = some v) : b.cell? p = some v :=
  (Below.cell h (World.block_lt_of_cell? a p hc)).trans hc
theorem lt_of_at {w : World} {k : Nat} {o : Obj} (hk : w.heap[k]? = some o) : k < w.heap.size := (Array.getElem?_eq_some_iff.1 hk).1
theorem at_alloc {w : World} {k : Nat} {o p : Obj} (hk : w.heap[k]? = some o) : (w.alloc p).heap[k]? = some o := by
  rw [Below.heap_alloc _ _ _ (lt_of_at hk)]; exact hk
theorem at_new (w : World) (o : Obj) : (w.alloc o).heap[w.heap.size]? = some o := by
  show (w.heap.push o)[w.heap.size]? = _
  simp
theorem cell_of_at {w : World} {b : Nat} {cs : Array Value} {t : TypeId} {z : Nat × Nat} (h : w.heap[b]? = some (.cells cs t z)) {i : Nat} {v : Value} (hi : cs[i]? = some v) : w.cell? ⟨b, i, none⟩ = some v := by
  simp [World.cell?, h, hi]
theorem addr_add (b off n : Nat) : (⟨b, off, none⟩ : Addr).add n = ⟨b, off + n, none⟩ := by
  unfold Addr.add
  split <;> simp_all
theorem addr_add0 (b n : Nat) : (⟨b, 0, none⟩ : Addr).add n = ⟨b, n, none⟩ := by rw [addr_add, Nat.zero_add]
theorem grown_set (w : World) (g o : Nat) (u : Value) : w.grownBy (w.setCell ⟨g, o, none⟩ u) (some g) :=
  ⟨rfl, rfl, rfl, by simp [World.setCell], fun k _ hk => Below.heap_setCell _ _ _ _ (fun e => hk (by rw [e]))⟩
theorem Fresh.grown {a b c : World} {r : Option Nat} (h : Fresh a b) (k : b.grownBy c r) (hr : ∀ g, r = some g → a.heap.size ≤ g) : Fresh a c :=
  Below.grown h k h.size hr
inductive M where
  | mk (kind : Int) (flag : Bool) (num : Int) (text : ByteArray) (la : Option Addr) (lc : Nat) (list : List M) (ka : Option Addr) (kc : Nat) (keys : List (ByteArray × M))
def M.kind : M → Int | .mk k _ _ _ _ _ _ _ _ _ => k
def M.list : M → List M | .mk _ _ _ _ _ _ l _ _ _ => l
def M.keys : M → List (ByteArray × M) | .mk _ _ _ _ _ _ _ _ _ ks => ks
def M.cells : M → List Value | .mk k f n s la lc l ka kc ks => [.int .i64 k, .bool f, .int .i64 n, .string s, .slice la l.length lc, .slice ka ks.length kc]
abbrev mval (k : Int) (f : Bool) (n : Int) (s : ByteArray) (la : Option Addr) (ln lc : Nat) (ka : Option Addr) (kn kc : Nat) : Value := .agg #[.int .i64 k, .bool f, .int .i64 n, .string s, .slice la ln lc, .slice ka kn kc]
def M.val : M → Value | .mk k f n s la lc l ka kc ks => mval k f n s la l.length lc ka ks.length kc
mutual
def M.plain : M → V | .mk k f n s _ _ l _ _ ks => .mk k f n s (plainL l) (plainK ks)
def plainL : List M → List V
  | [] => []
  | m :: l => m.plain :: plainL l
def plainK : List (ByteArray × M) → List (ByteArray × V)
  | [] => []
  | (s, m) :: l => (s, m.plain) :: plainK l
end
theorem plainL_eq (l : List M) : plainL l = l.map M.plain := by
  induction l with
  | nil => rfl
  | cons m l ih => simp only [plainL, List.map_cons, ih]
theorem plainK_eq (l : List (ByteArray × M)) : plainK l = l.map fun p => (p.1, p.2.plain) := by
  induction l with
  | nil => rfl
  | cons m l ih => obtain ⟨s, m⟩ := m; simp only [plainK, List.map_cons, ih]
def M.inside (m : M) : List M := if m.kind = 4 then m.list else if m.kind = 5 then m.keys.map (·.2) else []
theorem plain_kind (m : M) : m.plain.kind = m.kind := by obtain ⟨k, f, n, s, la, lc, l, ka, kc, ks⟩ := m; rfl
theorem plain_list (m : M) : m.plain.list = m.list.map M.plain := by obtain ⟨k, f, n, s, la, lc, l, ka, kc, ks⟩ := m; simp [M.plain, V.list, M.list, plainL_eq]
theorem plain_keys (m : M) : m.plain.keys = m.keys.map fun p => (p.1, p.2.plain) := by obtain ⟨k, f, n, s, la, lc, l, ka, kc, ks⟩ := m; simp [M.plain, V.keys, M.keys, plainK_eq]
theorem plain_inside (m : M) : m.plain.inside = m.inside.map M.plain := by
  unfold V.inside M.inside
  rw [plain_kind, plain_list, plain_keys]
  split
  · rfl
  split
  · simp
  · rfl
theorem plain_names (m : M) : m.plain.keys.map (·.1) = m.keys.map (·.1) := by rw [plain_keys]; simp
def RowAt (w : World) (a : Option Addr) (cs : List Value) : Prop :=
  (a = none ∧ cs = []) ∨ ∃ g, a = some ⟨g, 0, none⟩ ∧ ∀ j x, cs[j]? = some x → w.cell? ⟨g, j, none⟩ = some x
theorem RowAt.move {w w' : World} {a : Option Addr} {cs : List Value} (h : RowAt w a cs) (f : Fresh w w') : RowAt w' a cs := by
  rcases h with h | ⟨g, e, h⟩
  · exact .inl h
  · exact .inr ⟨g, e, fun j x hj => f.cell (h j x hj)⟩
theorem RowAt.nil (w : World) : RowAt w none [] := .inl ⟨rfl, rfl⟩
theorem RowAt.none {w : World} {cs : List Value} (h : RowAt w none cs) : cs = [] := by
  rcases h with ⟨_, h⟩ | ⟨g, e, _⟩
  · exact h
  · cases e
theorem RowAt.owns {w : World} {B : Nat} {t : TypeId} {k n m c : Nat} {a : Option Addr} {xs : List Value} (h : w.ownsRow B t k (.slice a m c) n xs) : RowAt w a xs := by
  rcases h.2 with ⟨e, hn⟩ | ⟨g, cap, cur, e, _⟩
  · cases e
    have := h.1
    rw [hn] at this
    exact .inl ⟨rfl, List.eq_nil_of_length_eq_zero (by simpa using this)⟩
  · cases e
    exact .inr ⟨g, rfl, fun j x hj => by rw [← addr_add0]; exact h.cells (g := g) rfl j x hj⟩
def mcells (l : List M) : List Value := l.flatMap M.cells
def pcellsOf (p : ByteArray × M) : List Value := .string p.1 :: p.2.cells
def pcells (l : List (ByteArray × M)) : List Value := l.flatMap pcellsOf
theorem cells_length (m : M) : m.cells.length = 6 := by obtain ⟨k, f, n, s, la, lc, l, ka, kc, ks⟩ := m; rfl
theorem flat_length {α : Type} (f : α → List Value) (k : Nat) (h : ∀ x, (f x).length = k) (l : List α) : (l.flatMap f).length = l.length * k := by
  induction l with
  | nil => simp
  | cons a l ih => simp only [List.flatMap_cons, List.length_append, ih, h, List.length_cons, Nat.succ_mul]; omega
theorem flat_get {α : Type} (f : α → List Value) (k : Nat) (h : ∀ x, (f x).length = k) (l : List α) : ∀ (i : Nat) (hi : i < l.length) (j : Nat), j < k → (l.flatMap f)[i * k + j]? = (f l[i])[j]? := by
  induction l with
  | nil => intro i hi; simp at hi
  | cons a l ih =>
    intro i hi j hj
    rw [List.flatMap_cons]
    cases i with
    | zero => rw [List.getElem?_append_left (by rw [h]; omega)]; simp
    | succ i =>
      have e : (i + 1) * k + j = k + (i * k + j) := by rw [Nat.succ_mul]; omega
      rw [List.getElem?_append_right (by rw [h]; omega), h, e, Nat.add_sub_cancel_left]
      exact ih i (by simpa using hi) j hj
theorem flat_snoc {α : Type} (f : α → List Value) (l : List α) (x : α) : (l ++ [x]).flatMap f = l.flatMap f ++ f x := by simp
theorem mcells_length (l : List M) : (mcells l).length = l.length * 6 := flat_length _ _ cells_length l
theorem pcells_length (l : List (ByteArray × M)) : (pcells l).length = l.length * 7 := flat_length _ _ (fun p => by simp [pcellsOf, cells_length]) l
theorem mcells_snoc (l : List M) (m : M) : mcells (l ++ [m]) = mcells l ++ m.cells := flat_snoc _ _ _
theorem pcells_snoc (l : List (ByteArray × M)) (p : ByteArray × M) : pcells (l ++ [p]) = pcells l ++ pcellsOf p := flat_snoc _ _ _
def M.lies (w : World) (g o : Nat) : M → Prop
  | .mk k f n s la lc l ka kc ks => w.cell? ⟨g, o, none⟩ = some (.int .i64 k) ∧ w.cell? ⟨g, o + 1, none⟩ = some (.bool f) ∧ w.cell? ⟨g, o + 2, none⟩ = some (.int .i64 n) ∧ w.cell? ⟨g, o + 3, none⟩ = some (.string s) ∧ w.cell? ⟨g, o + 4, none⟩ = some (.slice la l.length lc) ∧ w.cell? ⟨g, o + 5, none⟩ = some (.slice ka ks.length kc)
theorem M.lies.of {w : World} {g o : Nat} (m : M) (h : ∀ j x, m.cells[j]? = some x → w.cell? ⟨g, o + j, none⟩ = some x) : m.lies w g o := by
  obtain ⟨k, f, n, s, la, lc, l, ka, kc, ks⟩ := m
  exact ⟨h 0 _ rfl, h 1 _ rfl, h 2 _ rfl, h 3 _ rfl, h 4 _ rfl, h 5 _ rfl⟩
theorem M.lies.move {w w' : World} {g o : Nat} {m : M} (h : m.lies w g o) (f : Fresh w w') : m.lies w' g o := by
  obtain ⟨k, fl, n, s, la, lc, l, ka, kc, ks⟩ := m
  obtain ⟨h0, h1, h2, h3, h4, h5⟩ := h
  exact ⟨f.cell h0, f.cell h1, f.cell h2, f.cell h3, f.cell h4, f.cell h5⟩
theorem mrow_get {w : World} {g : Nat} {l : List M} (h : RowAt w (some ⟨g, 0, none⟩) (mcells l)) (i : Nat) (hi : i < l.length) : l[i].lies w g (i * 6) := by
  rcases h with ⟨e, _⟩ | ⟨g', e, h⟩
  · cases e
  · cases e
    refine M.lies.of _ fun j x hj => h _ _ ?_
    have hj6 : j < 6 := by rw [← cells_length l[i]]; exact (List.getElem?_eq_some_iff.1 hj).1
    unfold mcells
    rw [flat_get M.cells 6 cells_length l i hi j hj6]; exact hj
theorem prow_get {w : World} {g : Nat} {l : List (ByteArray × M)} (h : RowAt w (some ⟨g, 0, none⟩) (pcells l)) (i : Nat) (hi : i < l.length) : w.cell? ⟨g, i * 7, none⟩ = some (.string l[i].1) ∧ l[i].2.lies w g (i * 7 + 1) := by
  have hp : ∀ p : ByteArray × M, (pcellsOf p).length = 7 := fun p => by simp [pcellsOf, cells_length]
  rcases h with ⟨e, _⟩ | ⟨g', e, h⟩
  · cases e
  · cases e
    have hg : ∀ j x, (pcellsOf l[i])[j]? = some x → w.cell? ⟨g, i * 7 + j, none⟩ = some x := fun j x hj => h _ _ (by
      have hj7 : j < 7 := by rw [← hp l[i]]; exact (List.getElem?_eq_some_iff.1 hj).1
      unfold pcells
      rw [flat_get pcellsOf 7 hp l i hi j hj7]; exact hj)
    refine ⟨hg 0 _ rfl, M.lies.of _ fun j x hj => ?_⟩
    have := hg (j + 1) x (by simpa [pcellsOf] using hj)
    rw [Nat.add_right_comm, Nat.add_assoc]; exact this
inductive M.At (w : World) : M → Prop
  | mk {k : Int} {f : Bool} {n : Int} {s : ByteArray} {la : Option Addr} {lc : Nat} {l : List M} {ka : Option Addr} {kc : Nat} {ks : List (ByteArray × M)}
    (hs : s.size ≤ 1000000) (hl : RowAt w la (mcells l)) (hk : RowAt w ka (pcells ks)) (ll : l.length ≤ 1000000) (lk : ks.length ≤ 1000000) (hn : ∀ p ∈ ks, p.1.size ≤ 1000000)
    (ml : ∀ m ∈ l, M.At w m) (mk : ∀ p ∈ ks, M.At w p.2) : M.At w (.mk k f n s la lc l ka kc ks)
theorem M.At.move {w w' : World} {m : M} (h : m.At w) (f : Fresh w w') : m.At w' := by
  induction h with
  | mk hs hl hk ll lk hn ml mk ihl ihk => exact .mk hs (hl.move f) (hk.move f) ll lk hn ihl ihk
theorem M.At.parts {w : World} {k : Int} {f : Bool} {n : Int} {s : ByteArray} {la : Option Addr} {lc : Nat} {l : List M} {ka : Option Addr} {kc : Nat} {ks : List (ByteArray × M)} (h : (M.mk k f n s la lc l ka kc ks).At w) :
    s.size ≤ 1000000 ∧ RowAt w la (mcells l) ∧ RowAt w ka (pcells ks) ∧ l.length ≤ 1000000 ∧ ks.length ≤ 1000000 ∧ (∀ p ∈ ks, p.1.size ≤ 1000000) ∧ (∀ m ∈ l, M.At w m) ∧ (∀ p ∈ ks, M.At w p.2) := by
  cases h with
  | mk hs hl hk ll lk hn ml mk => exact ⟨hs, hl, hk, ll, lk, hn, ml, mk⟩
theorem M.At.inside {w : World} {m : M} (h : m.At w) : ∀ x ∈ m.inside, x.At w := by
  obtain ⟨k, f, n, s, la, lc, l, ka, kc, ks⟩ := m
  obtain ⟨_, _, _, _, _, _, ml, mk⟩ := h.parts
  intro x hx
  unfold M.inside at hx
  split at hx
  · exact ml x hx
  split at hx
  · obtain ⟨p, hp, rfl⟩ := List.mem_map.1 hx
    exact mk p hp
  · cases hx
theorem M.At.len {w : World} {m : M} (h : m.At w) : m.inside.length ≤ 1000000 := by
  obtain ⟨k, f, n, s, la, lc, l, ka, kc, ks⟩ := m
  obtain ⟨_, _, _, ll, lk, _⟩ := h.parts
  unfold M.inside
  split
  · exact ll
  split
  · rw [List.length_map]; exact lk
  · simp
def M.zero : M := .mk 0 false 0 ⟨#[]⟩ none 0 [] none 0 []
theorem owns_move {B : Nat} {t : TypeId} {n k : Nat} {w w' : World} {v : Value} {xs : List Value} (h : w.ownsRow B t k v n xs) (f : Fresh w w') : w'.ownsRow B t k v n xs :=
  h.kept (row := none) ⟨f.os, f.tape, f.output, f.size, fun i hi _ => f.block i hi⟩ (by cases hv : v.ownBlock <;> simp)
theorem owns_built {B : Nat} {t : TypeId} {k n : Nat} {w : World} {g : Nat} {cs : Array Value} (h : w.heap[g]? = some (.cells cs t (0, 0))) (hB : B ≤ g) (hk : cs.size = n * k) (hn : n ≤ maxLen) : w.ownsRow B t k (.slice (some ⟨g, 0, none⟩) n n) n cs.toList :=
  ⟨by simpa using hk, .inr ⟨g, n, cs, rfl, hB, h, Nat.le_refl _, hn, hk, by rw [List.take_of_length_le (by simp [hk])]⟩⟩
theorem owns_pop {B : Nat} {t : TypeId} {k n m c : Nat} {w : World} {a : Option Addr} {xs ys : List Value} (h : w.ownsRow B t k (.slice a m c) (n + 1) (xs ++ ys)) (hy : ys.length = k) : w.ownsRow B t k (.slice a n c) n xs := by
  obtain ⟨h1, h2⟩ := h
  have hx : xs.length = n * k := by simp [hy, Nat.succ_mul] at h1; omega
  refine ⟨hx, .inr ?_⟩
  rcases h2 with ⟨_, e⟩ | ⟨g, cap, cur, e, hb, hh, hn, hc, hs, ht⟩
  · omega
  · cases e
    refine ⟨g, c, cur, rfl, hb, hh, by omega, hc, hs, ?_⟩
    have hle : n * k ≤ (n + 1) * k := Nat.mul_le_mul_right k (by omega)
    have := congrArg (List.take (n * k)) ht
    rw [List.take_take, Nat.min_eq_left hle] at this
    rw [this, ← hx, List.take_left]
theorem own_grown {W w1 w2 : World} {B : Nat} {t : TypeId} {k n : Nat} {v : Value} {xs : List Value} (hB : W.heap.size ≤ B) (h : w1.ownsRow B t k v n xs) (hfr : Fresh W w1) (hg : w1.grownBy w2 v.ownBlock) : Fresh W w2 :=
  hfr.grown hg (fun g e => by have := (h.lt g e).1; omega)
end v
namespace y
open Go.ChangeShapes Go.WideShapes Go.ChangeAt Go.RowKit
attribute [local go_sem ↓] Go.wp_at_zero Go.wp_at_succ
variable {w : World}
def RowsIn (w : World) (g o : Nat) (R : List Rw) : Prop := ∀ (i : Nat) (h : i < R.length) (j : Nat) (u : Value), (rcell R[i])[j]? = some u → w.cell? ⟨g, o + 4 * i + j, none⟩ = some u
structure Fine (R : List Rw) : Prop where
  len : R.length ≤ 1000000
  row : ∀ r ∈ R, r.line ≤ 1000000 ∧ r.indent ≤ 1000000 ∧ r.text.length ≤ 90000 ∧ (r.dash = true ∨ (r.text ≠ [] ∧ r.text.getLast? ≠ some 32))
theorem Fine.tail {r : Rw} {R : List Rw} (h : Fine (r :: R)) : Fine R := ⟨by have := h.len; simp at this; omega, fun x hx => h.row x (List.mem_cons_of_mem _ hx)⟩
theorem Fine.head {r : Rw} {R : List Rw} (h : Fine (r :: R)) : r.line ≤ 1000000 ∧ r.indent ≤ 1000000 ∧ r.text.length ≤ 90000 ∧ (r.dash = true ∨ (r.text ≠ [] ∧ r.text.getLast? ≠ some 32)) := h.row r (List.mem_cons_self ..)
def Rdr (w : World) (b : Nat) (R : List Rw) (line : Nat) : Prop :=
  ∃ (a : Option Addr) (c : Nat), w.heap[b]? = some (.cells #[.slice a R.length c, .int .i64 (line : Int)] 60 (0, 0)) ∧ R.length ≤ c ∧ c ≤ 9223372036854775807 ∧ (R = [] ∨ ∃ g o, a = some ⟨g, o, none⟩ ∧ g < b ∧ RowsIn w g o R)
structure Wr (p : Nat → Prop) (w w' : World) : Prop where
  os : w'.os = w.os
  tape : w'.tape = w.tape
  output : w'.output = w.output
  size : w.heap.size ≤ w'.heap.size
  block : ∀ k, k < w.heap.size → ¬ p k → w'.heap[k]? = w.heap[k]?
theorem Wr.of_fresh {p : Nat → Prop} {w w' : World} (f : Fresh w w') : Wr p w w' := ⟨f.os, f.tape, f.output, f.size, fun i hi _ => f.block i hi⟩
theorem Wr.refl (p : Nat → Prop) (w : World) : Wr p w w := .of_fresh (Fresh.refl w)
theorem Wr.then {p q : Nat → Prop} {a b c : World} (h : Wr p a b) (k : Wr q b c) (hq : ∀ i, q i → p i ∨ a.heap.size ≤ i) : Wr p a c :=
  ⟨k.os.trans h.os, k.tape.trans h.tape, k.output.trans h.output, Nat.le_trans h.size k.size, fun i hi hp => (k.block i (Nat.lt_of_lt_of_le hi h.size) (fun hqi => by rcases hq i hqi with h1 | h1; exact hp h1; omega)).trans (h.block i hi hp)⟩
theorem Wr.trans {p : Nat → Prop} {a b c : World} (h : Wr p a b) (k : Wr p b c) : Wr p a c := h.then k fun _ => .inl
theorem Wr.mono {p q : Nat → Prop} {a b : World} (h : Wr p a b) (hq : ∀ i, p i → q i) : Wr q a b := ⟨h.os, h.tape, h.output, h.size, fun i hi hp => h.block i hi fun e => hp (hq i e)⟩
theorem Wr.fresh {p : Nat → Prop} {a b c : World} (h : Wr p a b) (f : Fresh b c) : Wr p a c := h.trans (.of_fresh f)
theorem Wr.up {p : Nat → Prop} {a b c : World} (f : Fresh a b) (h : Wr p b c) : Wr p a c := (Wr.of_fresh f).trans h
theorem Wr.alloc {p : Nat → Prop} {a b : World} (h : Wr p a b) (o : Obj) : Wr p a (b.alloc o) := h.fresh ((Fresh.refl _).alloc o)
theorem Wr.drew {p : Nat → Prop} {a b : World} (h : Wr p a b) : Wr p a b.drew := h.fresh (Fresh.refl _).drew
theorem Wr.set {p : Nat → Prop} {a b : World} (h : Wr p a b) {g i : Nat} (hg : p g ∨ a.heap.size ≤ g) (u : Value) : Wr p a (b.setCell ⟨g, i, none⟩ u) :=
  ⟨h.os, h.tape, h.output, by have := h.size; simpa [World.setCell] using this, fun k hk hp => (Below.heap_setCell _ _ _ _ (fun e => by dsimp only at e; subst e; rcases hg with h1 | h1; exact hp h1; omega)).trans (h.block k hk hp)⟩
theorem Wr.grown {p : Nat → Prop} {a b c : World} {row : Option Nat} (h : Wr p a b) (k : b.grownBy c row) (hr : ∀ g, row = some g → p g ∨ a.heap.size ≤ g) : Wr p a c :=
  h.then (q := fun i => row = some i) ⟨k.os, k.tape, k.output, k.size, fun i hi hp => k.block i hi fun e => hp e.symm⟩ hr
theorem Wr.at {p : Nat → Prop} {a b : World} (h : Wr p a b) {g : Nat} {o : Obj} (hg : ¬ p g) (hc : a.heap[g]? = some o) : b.heap[g]? = some o := by
  rw [h.block g (lt_of_at hc) hg]; exact hc
theorem Wr.cell {p : Nat → Prop} {a b : World} (h : Wr p a b) {g o : Nat} {u : Value} (hg : ¬ p g) (hc : a.cell? ⟨g, o, none⟩ = some u) : b.cell? ⟨g, o, none⟩ = some u :=
  (World.cell?_of_block (a := ⟨g, o, none⟩) (h.block g (World.block_lt_of_cell? a _ hc) hg)).trans hc
theorem Wr.toFresh {p : Nat → Prop} {a b : World} (h : Wr p a b) (hp : ∀ k, k < a.heap.size → ¬ p k) : Fresh a b := ⟨h.os, h.tape, h.output, h.size, fun k hk => h.block k hk (hp k hk)⟩
theorem Rdr.keep {p : Nat → Prop} {w w' : World} {b : Nat} {R : List Rw} {line : Nat} (h : Rdr w b R line) (f : Wr p w w') (hp : ∀ k, k ≤ b → ¬ p k) : Rdr w' b R line := by
  obtain ⟨a, c, hb, hc, hcm, hr⟩ := h
  refine ⟨a, c, f.at (hp b (Nat.le_refl _)) hb, hc, hcm, hr.imp_right ?_⟩
  rintro ⟨g, o, e, hg, hi⟩
  exact ⟨g, o, e, hg, fun i h j u hu => f.cell (hp g (Nat.le_of_lt hg)) (hi i h j u hu)⟩
theorem Rdr.move {w w' : World} {b : Nat} {R : List Rw} {line : Nat} (h : Rdr w b R line) (f : Fresh w w') : Rdr w' b R line := h.keep (p := fun _ => False) (.of_fresh f) fun _ _ => id
theorem Rdr.lt {w : World} {b : Nat} {R : List Rw} {line : Nat} (h : Rdr w b R line) : b < w.heap.size := by
  obtain ⟨a, c, hb, _⟩ := h
  exact lt_of_at hb
def rowV (r : Rw) : Value := .agg #[.int .i64 (r.line : Int), .int .i64 (r.indent : Int), .bool r.dash, .string (tx r.text)]
def misV (line : Nat) (e : Int) : Value := .agg #[.int .i64 (line : Int), .int .i64 e]
def Panics (line : Nat) (c : Int) (e : Ending) : Prop := e = .panicked [{ v := .iface 30 (misV line c), recovered := false }]
theorem wrong_any (b : Nat) (R : List Rw) (line : Nat) (c : Int) (w : World) (h : Rdr w b R line) :
    Calls Tryz.prog 54 #[.pointer (some ⟨b, 0, none⟩), .int .i64 c] w fun e w' => e = .returned (misV line c) ∧ Fresh w w' := by
  obtain ⟨a, cap, hb, _⟩ := h
  have hlt := lt_of_at hb
  have c1 := cell_of_at hb (i := 1) rfl
  clear hb
  go_enter Tryz.func54, Tryz.ntmps54
  go_wp2
  exact bodyPost_ret (v := misV line c) (by simp [results, Tryz.results54, go_sem, misV]) rfl ⟨rfl, (Fresh.refl w).alloc _⟩
theorem mayHold_ok (b : Nat) (n : Nat) (w : World) (h : n < 32) :
    Calls Tryz.prog 112 #[.pointer (some ⟨b, 0, none⟩), .int .i64 (n : Int)] w fun e w' => e = .returned (.tuple #[]) ∧ w = w' := by
  have h' : ¬ (32 : Int) ≤ (n : Int) := by omega
  go_enter Tryz.func112, Tryz.ntmps112
  go_wp2
  go_end0
  exact ⟨rfl, rfl⟩
theorem mayHold_no (b : Nat) (R : List Rw) (line n : Nat) (w : World) (hr : Rdr w b R line) (h : 32 ≤ n) :
    Calls Tryz.prog 112 #[.pointer (some ⟨b, 0, none⟩), .int .i64 (n : Int)] w fun e w' => Panics line 9 e ∧ Fresh w w' := by
  have h' : (32 : Int) ≤ (n : Int) := by omega
  have HW := Lib.hid (wrong_any b R line 9 w hr)
  clear hr
  go_enter Tryz.func112, Tryz.ntmps112
  go_wp2_with (go_at_call 54; refine HW.out.mono ?_; rintro e w1 ⟨rfl, hf⟩; have HF := Lib.hid hf; clear hf)
  exact ⟨rfl, rfl, HF.out⟩
def hasB (ind : Int) (R : List Rw) : Bool := match R with
  | [] => false
  | r :: _ => decide (ind < (r.indent : Int))
theorem hasBehind_any (b : Nat) (R : List Rw) (line : Nat) (ind : Int) (w : World) (h : Rdr w b R line) (hR : Fine R) :
    Calls Tryz.prog 52 #[.pointer (some ⟨b, 0, none⟩), .int .i64 ind] w fun e w' => e = .returned (.bool (hasB ind R)) ∧ w = w' := by
  obtain ⟨a, cap, hb, hc, hcm, hr⟩ := h
  have hlt := lt_of_at hb
  have c0 : w.cell? ⟨b, 0, none⟩ = some (.slice a R.length cap) := cell_of_at hb rfl
  clear hb
  cases R with
  | nil =>
    have H : Hid (hasB ind [] = false) := rfl
    generalize hasB ind [] = x at *
    obtain rfl := H.out
    clear H hr
    simp only [List.length_nil] at c0 hc
    go_enter Tryz.func52, Tryz.ntmps52
    go_wp2
    go_ret
    exact ⟨rfl, rfl⟩
  | cons r T =>
    obtain ⟨g, o, rfl, hg, hi⟩ := hr.resolve_left (by simp)
    have c1 : w.cell? ⟨g, o + 1, none⟩ = some (.int .i64 (r.indent : Int)) := hi 0 (by simp) 1 _ rfl
    have HL := hR.len
    rw [List.length_cons] at c0 hc HL
    generalize T.length = n at *
    have h0 : (0 : Int) < ((n + 1 : Nat) : Int) := by omega
    have hc' : n + 1 ≤ cap := hc
    clear hi hr hR hg
    cases hx : decide (ind < (r.indent : Int)) with
    | false =>
      have H : Hid (hasB ind (r :: T) = false) := hx
      generalize hasB ind (r :: T) = x at *
      obtain rfl := H.out
      have hx' : ¬ ind < (r.indent : Int) := of_decide_eq_false hx
      clear H hx
      go_enter Tryz.func52, Tryz.ntmps52
      go_wp2
      go_ret
      exact ⟨rfl, rfl⟩
    | true =>
      have H : Hid (hasB ind (r :: T) = true) := hx
      generalize hasB ind (r :: T) = x at *
      obtain rfl := H.out
      have hx' : ind < (r.indent : Int) := of_decide_eq_true hx
      clear H hx
      go_enter Tryz.func52, Tryz.ntmps52
      go_wp2
      go_ret
      exact ⟨rfl, rfl⟩
theorem next_any (b : Nat) (r : Rw) (T : List Rw) (line : Nat) (w : World) (h : Rdr w b (r :: T) line) (hR : Fine (r :: T)) :
    Calls Tryz.prog 53 #[.pointer (some ⟨b, 0, none⟩)] w fun e w' => e = .returned (rowV r) ∧ Rdr w' b T r.line ∧ Wr (· = b) w w' := by
  obtain ⟨a, cap, hb, hc, hcm, hr⟩ := h
  obtain ⟨g, o, rfl, hg, hi⟩ := hr.resolve_left (by simp)
  have hlt := lt_of_at hb
  have c0 : w.cell? ⟨b, 0, none⟩ = some (.slice (some ⟨g, o, none⟩) (T.length + 1) cap) := cell_of_at hb rfl
  have c1 : w.cell? ⟨b, 1, none⟩ = some (.int .i64 (line : Int)) := cell_of_at hb rfl
  have fr0 : w.frozen? ⟨b, 0, none⟩ = false := by simp [World.frozen?, hb]
  have fr1 : w.frozen? ⟨b, 1, none⟩ = false := by simp [World.frozen?, hb]
  have r0 : w.cell? ⟨g, o, none⟩ = some (.int .i64 (r.line : Int)) := hi 0 (by simp) 0 _ rfl
  have r1 : w.cell? ⟨g, o + 1, none⟩ = some (.int .i64 (r.indent : Int)) := hi 0 (by simp) 1 _ rfl
  have r2 : w.cell? ⟨g, o + 2, none⟩ = some (.bool r.dash) := hi 0 (by simp) 2 _ rfl
  have r3 : w.cell? ⟨g, o + 3, none⟩ = some (.string (tx r.text)) := hi 0 (by simp) 3 _ rfl
  have HL := hR.len
  rw [List.length_cons] at hc HL
  obtain ⟨a', hs, ha'⟩ : ∃ a' : Option Addr, (∀ W : World, (Instr.slice 55 (.slice (some ⟨g, o, none⟩) (T.length + 1) cap) (some (.int .i64 1)) none none).run Tryz.prog W = .ok (.slice a' T.length (cap - 1)) W) ∧ (T = [] ∨ a' = some ⟨g, o + 4, none⟩) := by
    by_cases h1 : cap = 1
    · subst h1
      refine ⟨some ⟨g, o, none⟩, fun W => ?_, .inl (List.eq_nil_of_length_eq_zero (by omega))⟩
      have h1 : (1 : Int) ≤ (T.length : Int) + 1 := by omega
      simp [go_sem, sliced, h1]
    · refine ⟨some ⟨g, o + 4, none⟩, fun W => ?_, .inr rfl⟩
      have h2 : (1 : Int) ≤ (T.length : Int) + 1 := by omega
      simp [go_sem, sliced, h1, h2, Addr.add]
  have hgb : g ≠ b := Nat.ne_of_lt hg
  have hlg : g < w.heap.size := World.block_lt_of_cell? w ⟨g, o, none⟩ r0
  have HS : Hid (Rdr ((w.setCell ⟨b, 0, none⟩ (.slice a' T.length (cap - 1))).setCell ⟨b, 1, none⟩ (.int .i64 (r.line : Int))) b T r.line) := by
    refine ⟨a', cap - 1, by simp [World.setCell, Array.getElem?_modify, hb], by omega, by omega, ?_⟩
    rcases ha' with ha' | ha'
    · exact .inl ha'
    · refine .inr ⟨g, o + 4, ha', hg, fun i h j u hu => ?_⟩
      have h1 := hi (i + 1) (by simpa using h) j u (by simpa using hu)
      rw [show o + 4 + 4 * i + j = o + 4 * (i + 1) + j by omega]
      rw [World.cell?_of_block (a := ⟨g, _, none⟩) (Below.heap_setCell _ ⟨b, 1, none⟩ _ g (Nat.ne_of_lt hg)), World.cell?_of_block (a := ⟨g, _, none⟩) (Below.heap_setCell _ ⟨b, 0, none⟩ _ g (Nat.ne_of_lt hg))]
      exact h1
  have HG : Hid (Wr (· = b) w ((w.setCell ⟨b, 0, none⟩ (.slice a' T.length (cap - 1))).setCell ⟨b, 1, none⟩ (.int .i64 (r.line : Int)))) := ((Wr.refl (fun k => k = b) w).set (.inl rfl) _).set (.inl rfl) _
  have HSL := Lib.hid hs
  clear hb hr hi hR ha' hs
  have hs := HSL.out
  go_enter Tryz.func53, Tryz.ntmps53
  go_wp2
  refine bodyPost_ret (v := rowV r) (by simp [results, Tryz.results53, go_sem, rowV]) rfl ⟨rfl, ?_, ?_⟩
  · exact ((HS.out.move ((Fresh.refl _).alloc _)).move ((Fresh.refl _).alloc _))
  · exact (HG.out.alloc _).alloc _
def placeV (ar : Int) (ind ins : Nat) (d : Bool) : Value := .agg #[.int .i64 ar, .int .i64 (ind : Int), .int .i64 (ins : Int), .bool d]
theorem more_none (b : Nat) (R : List Rw) (line : Nat) (ar : Int) (ind ins : Nat) (d : Bool) (w : World) (h : Rdr w b R line) (hR : Fine R) (hb : hasB ar R = false) :
    Calls Tryz.prog 113 #[.pointer (some ⟨b, 0, none⟩), placeV ar ind ins d] w fun e w' => e = .returned (.tuple #[.agg #[.int .i64 0, .int .i64 0, .bool false, .string ⟨#[]⟩], .bool false]) ∧ Fresh w w' := by
  have H := Lib.hid h
  have HB : Hid (∀ W : World, Rdr W b R line → Calls Tryz.prog 52 #[.pointer (some ⟨b, 0, none⟩), .int .i64 ar] W fun e w' => e = .returned (.bool false) ∧ W = w') := fun W hW => by
    have := hasBehind_any b R line ar W hW hR
    rw [hb] at this
    exact this
  clear h hb
  unfold placeV
  go_enter Tryz.func113, Tryz.ntmps113
  go_wp2_with (go_at_call 52; refine (HB.out _ (H.out.move (((Fresh.refl _).alloc _).alloc _))).mono ?_; rintro e w1 ⟨rfl, rfl⟩)
  refine bodyPost_ret (v := .tuple #[.agg #[.int .i64 0, .int .i64 0, .bool false, .string ⟨#[]⟩], .bool false]) (by simp [results, Tryz.results113, go_sem]) rfl ⟨rfl, ?_⟩
  exact ((Fresh.refl _).alloc _).alloc _
theorem more_ok (b : Nat) (r : Rw) (T : List Rw) (line : Nat) (ar : Int) (ins : Nat) (w : World) (h : Rdr w b (r :: T) line) (hR : Fine (r :: T)) (hb : hasB ar (r :: T) = true) :
    Calls Tryz.prog 113 #[.pointer (some ⟨b, 0, none⟩), placeV ar r.indent ins r.dash] w fun e w' => e = .returned (.tuple #[rowV r, .bool true]) ∧ Rdr w' b T r.line ∧ Wr (· = b) w w' := by
  have H := Lib.hid h
  have HB : Hid (∀ W : World, Rdr W b (r :: T) line → Calls Tryz.prog 52 #[.pointer (some ⟨b, 0, none⟩), .int .i64 ar] W fun e w' => e = .returned (.bool true) ∧ W = w') := fun W hW => by
    have := hasBehind_any b (r :: T) line ar W hW hR
    rw [hb] at this
    exact this
  have HN : Hid (∀ W : World, Rdr W b (r :: T) line → Calls Tryz.prog 53 #[.pointer (some ⟨b, 0, none⟩)] W fun e w' => e = .returned (rowV r) ∧ Rdr w' b T r.line ∧ Wr (· = b) W w') := fun W hW => next_any b r T line W hW hR
  have HLT := Lib.hid h.lt
  clear h hb hR
  have HP := Lib.hid (v.at_alloc (o := .cells #[.int .i64 ar, .int .i64 (r.indent : Int), .int .i64 (ins : Int), .bool r.dash] 135 (0, 0)) (p := .cells #[.int .i64 0, .int .i64 0, .bool false, .string ⟨#[]⟩] 90 (0, 0)) (v.at_new w (.cells #[.int .i64 ar, .int .i64 (r.indent : Int), .int .i64 (ins : Int), .bool r.dash] 135 (0, 0))))
  have HP2 : Hid (((w.alloc (.cells #[.int .i64 ar, .int .i64 (r.indent : Int), .int .i64 (ins : Int), .bool r.dash] 135 (0, 0))).alloc (.cells #[.int .i64 0, .int .i64 0, .bool false, .string ⟨#[]⟩] 90 (0, 0))).heap[w.heap.size + 1]? = some (.cells #[.int .i64 0, .int .i64 0, .bool false, .string ⟨#[]⟩] 90 (0, 0))) := by
    have := v.at_new (w.alloc (.cells #[.int .i64 ar, .int .i64 (r.indent : Int), .int .i64 (ins : Int), .bool r.dash] 135 (0, 0))) (.cells #[.int .i64 0, .int .i64 0, .bool false, .string ⟨#[]⟩] 90 (0, 0))
    rwa [World.size_alloc] at this
  have HF := Lib.hid (((Fresh.refl w).alloc (.cells #[.int .i64 ar, .int .i64 (r.indent : Int), .int .i64 (ins : Int), .bool r.dash] 135 (0, 0))).alloc (.cells #[.int .i64 0, .int .i64 0, .bool false, .string ⟨#[]⟩] 90 (0, 0)))
  have h1 := H.out.move HF.out
  have H1 := Lib.hid h1
  clear h1
  unfold placeV
  go_enter Tryz.func113, Tryz.ntmps113
  go_wp2_with fail
  generalize (w.alloc (.cells #[.int .i64 ar, .int .i64 (r.indent : Int), .int .i64 (ins : Int), .bool r.dash] 135 (0, 0))).alloc (.cells #[.int .i64 0, .int .i64 0, .bool false, .string ⟨#[]⟩] 90 (0, 0)) = w0 at *
  generalize hsz : w.heap.size = sz at *
  have HSZ := Lib.hid hsz
  clear hsz
  refine (HB.out _ H1.out).mono ?_
  rintro e w1 ⟨rfl, rfl⟩
  clear HB
  go_wp2_with fail
  refine (HN.out _ H1.out).mono ?_
  rintro e w1 ⟨rfl, hr1, hg1⟩
  have n1 : sz ≠ b := by have := HLT.out; omega
  have n2 : sz + 1 ≠ b := by have := HLT.out; omega
  have k1 := hg1.at n1 HP.out
  have k2 := hg1.at n2 HP2.out
  have HS : Hid (sz + 1 < w1.heap.size) := v.lt_of_at k2
  have p1 : w1.cell? ⟨sz, 1, none⟩ = some (.int .i64 (r.indent : Int)) := cell_of_at k1 rfl
  have p3 : w1.cell? ⟨sz, 3, none⟩ = some (.bool r.dash) := cell_of_at k1 rfl
  have q0 : w1.cell? ⟨sz + 1, 0, none⟩ = some (.int .i64 0) := cell_of_at k2 rfl
  have q1 : w1.cell? ⟨sz + 1, 1, none⟩ = some (.int .i64 0) := cell_of_at k2 rfl
  have q2 : w1.cell? ⟨sz + 1, 2, none⟩ = some (.bool false) := cell_of_at k2 rfl
  have q3 : w1.cell? ⟨sz + 1, 3, none⟩ = some (.string ⟨#[]⟩) := cell_of_at k2 rfl
  have f0 : ∀ i, w1.frozen? ⟨sz + 1, i, none⟩ = false := fun i => by simp [World.frozen?, k2]
  have HG1 := Lib.hid hg1
  have HR1 := Lib.hid hr1
  have s1 := v.lt_of_at k1
  have s2 := v.lt_of_at k2
  unfold rowV
  have f00 := f0 0
  have f01 := f0 1
  have f02 := f0 2
  have f03 := f0 3
  clear k1 k2 hg1 hr1 HN H1 f0
  go_wp2
  have hl := HLT.out
  have hz := HSZ.out
  have hs := HS.out
  refine bodyPost_ret (v := .tuple #[rowV r, .bool true]) (by simp [results, Tryz.results113, go_sem, rowV, *]) rfl ⟨rfl, ?_, ?_⟩
  · clear hz
    exact HR1.out.keep (p := fun k => k = sz + 1 ∨ w1.heap.size ≤ k) ((((((Wr.refl (fun k => k = sz + 1 ∨ w1.heap.size ≤ k) w1).set (.inl (.inl rfl)) _).set (.inl (.inl rfl)) _).set (.inl (.inl rfl)) _).set (.inl (.inl rfl)) _).alloc _) (fun k hk e => by rcases e with e | e <;> omega)
  · exact (((((((Wr.of_fresh HF.out).trans HG1.out).set (.inr (by omega)) _).set (.inr (by omega)) _).set (.inr (by omega)) _).set (.inr (by omega)) _).alloc _)
theorem more_bad (b : Nat) (r : Rw) (T : List Rw) (line : Nat) (ar : Int) (ind ins : Nat) (d : Bool) (w : World) (h : Rdr w b (r :: T) line) (hR : Fine (r :: T)) (hb : hasB ar (r :: T) = true) (hx : r.indent ≠ ind ∨ (r.indent = ind ∧ r.dash ≠ d)) :
    Calls Tryz.prog 113 #[.pointer (some ⟨b, 0, none⟩), placeV ar ind ins d] w fun e w' => Panics r.line 6 e ∧ Wr (fun k => k = b) w w' := by
  have H := Lib.hid h
  have HB : Hid (∀ W : World, Rdr W b (r :: T) line → Calls Tryz.prog 52 #[.pointer (some ⟨b, 0, none⟩), .int .i64 ar] W fun e w' => e = .returned (.bool true) ∧ W = w') := fun W hW => by
    have := hasBehind_any b (r :: T) line ar W hW hR
    rw [hb] at this
    exact this
  have HN : Hid (∀ W : World, Rdr W b (r :: T) line → Calls Tryz.prog 53 #[.pointer (some ⟨b, 0, none⟩)] W fun e w' => e = .returned (rowV r) ∧ Rdr w' b T r.line ∧ Wr (· = b) W w') := fun W hW => next_any b r T line W hW hR
  have HLT := Lib.hid h.lt
  have HW : Hid (∀ W : World, Rdr W b T r.line → Calls Tryz.prog 54 #[.pointer (some ⟨b, 0, none⟩), .int .i64 6] W fun e w' => e = .returned (misV r.line 6) ∧ Fresh W w') := fun W hW => wrong_any b T r.line 6 W hW
  have HX := Lib.hid hx
  clear hx
  clear h hb hR
  have HP := Lib.hid (v.at_alloc (o := .cells #[.int .i64 ar, .int .i64 (ind : Int), .int .i64 (ins : Int), .bool d] 135 (0, 0)) (p := .cells #[.int .i64 0, .int .i64 0, .bool false, .string ⟨#[]⟩] 90 (0, 0)) (v.at_new w (.cells #[.int .i64 ar, .int .i64 (ind : Int), .int .i64 (ins : Int), .bool d] 135 (0, 0))))
  have HP2 : Hid (((w.alloc (.cells #[.int .i64 ar, .int .i64 (ind : Int), .int .i64 (ins : Int), .bool d] 135 (0, 0))).alloc (.cells #[.int .i64 0, .int .i64 0, .bool false, .string ⟨#[]⟩] 90 (0, 0))).heap[w.heap.size + 1]? = some (.cells #[.int .i64 0, .int .i64 0, .bool false, .string ⟨#[]⟩] 90 (0, 0))) := by
    have := v.at_new (w.alloc (.cells #[.int .i64 ar, .int .i64 (ind : Int), .int .i64 (ins : Int), .bool d] 135 (0, 0))) (.cells #[.int .i64 0, .int .i64 0, .bool false, .string ⟨#[]⟩] 90 (0, 0))
    rwa [World.size_alloc] at this
  have HF := Lib.hid (((Fresh.refl w).alloc (.cells #[.int .i64 ar, .int .i64 (ind : Int), .int .i64 (ins : Int), .bool d] 135 (0, 0))).alloc (.cells #[.int .i64 0, .int .i64 0, .bool false, .string ⟨#[]⟩] 90 (0, 0)))
  have h1 := H.out.move HF.out
  have H1 := Lib.hid h1
  clear h1
  unfold placeV
  go_enter Tryz.func113, Tryz.ntmps113
  go_wp2_with fail
  generalize (w.alloc (.cells #[.int .i64 ar, .int .i64 (ind : Int), .int .i64 (ins : Int), .bool d] 135 (0, 0))).alloc (.cells #[.int .i64 0, .int .i64 0, .bool false, .string ⟨#[]⟩] 90 (0, 0)) = w0 at *
  generalize hsz : w.heap.size = sz at *
  have HSZ := Lib.hid hsz
  clear hsz
  refine (HB.out _ H1.out).mono ?_
  rintro e w1 ⟨rfl, rfl⟩
  clear HB
  go_wp2_with fail
  refine (HN.out _ H1.out).mono ?_
  rintro e w1 ⟨rfl, hr1, hg1⟩
  have n1 : sz ≠ b := by have := HLT.out; omega
  have n2 : sz + 1 ≠ b := by have := HLT.out; omega
  have k1 := hg1.at n1 HP.out
  have k2 := hg1.at n2 HP2.out
  have HS : Hid (sz + 1 < w1.heap.size) := v.lt_of_at k2
  have p1 : w1.cell? ⟨sz, 1, none⟩ = some (.int .i64 (ind : Int)) := cell_of_at k1 rfl
  have p3 : w1.cell? ⟨sz, 3, none⟩ = some (.bool d) := cell_of_at k1 rfl
  have q0 : w1.cell? ⟨sz + 1, 0, none⟩ = some (.int .i64 0) := cell_of_at k2 rfl
  have q1 : w1.cell? ⟨sz + 1, 1, none⟩ = some (.int .i64 0) := cell_of_at k2 rfl
  have q2 : w1.cell? ⟨sz + 1, 2, none⟩ = some (.bool false) := cell_of_at k2 rfl
  have q3 : w1.cell? ⟨sz + 1, 3, none⟩ = some (.string ⟨#[]⟩) := cell_of_at k2 rfl
  have f0 : ∀ i, w1.frozen? ⟨sz + 1, i, none⟩ = false := fun i => by simp [World.frozen?, k2]
  have HG1 := Lib.hid hg1
  have HR1 := Lib.hid hr1
  have s1 := v.lt_of_at k1
  have s2 := v.lt_of_at k2
  unfold rowV
  have f00 := f0 0
  have f01 := f0 1
  have f02 := f0 2
  have f03 := f0 3
  clear k1 k2 hg1 hr1 HN H1 f0 q0 q1 q2 q3 f00 f01 f02 f03
  obtain ⟨w2, hw2⟩ : ∃ w2 : World, w2 = w1.alloc (.cells #[.int .i64 (r.line : Int), .int .i64 (r.indent : Int), .bool r.dash, .string (tx r.text)] 90) := ⟨_, rfl⟩
  have HR2 : Hid (Rdr (w1.alloc (.cells #[.int .i64 (r.line : Int), .int .i64 (r.indent : Int), .bool r.dash, .string (tx r.text)] 90)) b T r.line) := HR1.out.move ((Fresh.refl _).alloc _)
  clear hw2
  rcases HX.out with h1 | ⟨h1, h2⟩
  · have g1 : ((r.indent : Int) != (ind : Int)) = true := by simp; omega
    have g2 : ((r.indent : Int) == (ind : Int)) = false := by simp; omega
    clear h1 p3
    go_wp2_with (go_at_call 54; refine (HW.out _ HR2.out).mono ?_; rintro e w3 ⟨rfl, hf⟩; have HF3 := Lib.hid hf; clear hf)
    exact ⟨rfl, rfl, (((Wr.of_fresh HF.out).trans HG1.out).alloc _).fresh HF3.out⟩
  · rw [← h1] at p1
    obtain ⟨ri, hri⟩ : ∃ ri : Nat, r.indent = ri := ⟨_, rfl⟩
    cases hd : d <;> cases hrd : r.dash
    · exact absurd (hrd.trans hd.symm) h2
    all_goals first | exact absurd (hrd.trans hd.symm) h2 | skip
    all_goals
      rw [hd] at p3
      rw [hrd] at HR2
      clear h2 h1 hri hd
      go_wp2_with (go_at_call 54; refine (HW.out _ HR2.out).mono ?_; rintro e w3 ⟨rfl, hf⟩; have HF3 := Lib.hid hf; clear hf)
      exact ⟨rfl, rfl, (((Wr.of_fresh HF.out).trans HG1.out).alloc _).fresh HF3.out⟩
end y
namespace y
open Go.ChangeShapes Go.WideShapes Go.ChangeAt Go.RowKit
variable {w : World}
abbrev zcells : Array Value := #[.int .i64 0, .bool false, .int .i64 0, .string ⟨#[]⟩, .slice none 0 0, .slice none 0 0]
def VBox (w : World) (g : Nat) : Prop := w.heap[g]? = some (.cells zcells 27 (0, 0))
structure VFacts (w : World) (g : Nat) : Prop where
  c0 : w.cell? ⟨g, 0, none⟩ = some (.int .i64 0)
  c1 : w.cell? ⟨g, 1, none⟩ = some (.bool false)
  c2 : w.cell? ⟨g, 2, none⟩ = some (.int .i64 0)
  c3 : w.cell? ⟨g, 3, none⟩ = some (.string ⟨#[]⟩)
  c4 : w.cell? ⟨g, 4, none⟩ = some (.slice none 0 0)
  c5 : w.cell? ⟨g, 5, none⟩ = some (.slice none 0 0)
  f : ∀ i, w.frozen? ⟨g, i, none⟩ = false
  lt : g < w.heap.size
theorem VBox.facts {w : World} {g : Nat} (h : VBox w g) : VFacts w g :=
  ⟨cell_of_at h rfl, cell_of_at h rfl, cell_of_at h rfl, cell_of_at h rfl, cell_of_at h rfl, cell_of_at h rfl, fun i => by simp [World.frozen?, show w.heap[g]? = some (.cells zcells 27 (0, 0)) from h], v.lt_of_at h⟩
theorem VBox.new (w : World) : VBox (w.alloc (.cells zcells 27 (0, 0))) w.heap.size := v.at_new w _
theorem VBox.wr {p : Nat → Prop} {w w' : World} {g : Nat} (h : VBox w g) (f : Wr p w w') (hp : ¬ p g) : VBox w' g := f.at hp h
theorem VBox.move {w w' : World} {g : Nat} (h : VBox w g) (f : Fresh w w') : VBox w' g := h.wr (p := fun _ => False) (.of_fresh f) id
theorem Wr.set6 {p : Nat → Prop} {a b : World} (h : Wr p a b) {g : Nat} (hg : p g ∨ a.heap.size ≤ g) (u0 u1 u2 u3 u4 u5 : Value) :
    Wr p a ((((((b.setCell ⟨g, 0, none⟩ u0).setCell ⟨g, 1, none⟩ u1).setCell ⟨g, 2, none⟩ u2).setCell ⟨g, 3, none⟩ u3).setCell ⟨g, 4, none⟩ u4).setCell ⟨g, 5, none⟩ u5) :=
  (((((h.set hg u0).set hg u1).set hg u2).set hg u3).set hg u4).set hg u5
end y
namespace y
open Go.ChangeShapes Go.WideShapes Go.ChangeAt Go.RowKit
attribute [local go_sem ↓] Go.wp_at_zero Go.wp_at_succ
variable {w : World}
theorem tx_list (l : List UInt8) : (tx l).toList = l := by rw [Lib.toList_data, tx_toList]
theorem tx_eq (l m : List UInt8) : ((tx l).toList == m) = decide (l = m) := by
  rw [tx_list]
  rw [Bool.eq_iff_iff]; simp
def tNull : List UInt8 := [110, 117, 108, 108]
def tTrue : List UInt8 := [116, 114, 117, 101]
def tFalse : List UInt8 := [102, 97, 108, 115, 101]
def namedB (l : List UInt8) : Bool := decide (l = tNull) || (decide (l = tTrue) || decide (l = tFalse))
def flagM (b : Bool) : v.M := .mk 1 b 0 ⟨#[]⟩ none 0 [] none 0 []
def nameM (l : List UInt8) : v.M := if l = tTrue then flagM true else if l = tFalse then flagM false else v.M.zero
theorem yes_raw (b : Bool) (w : World) : Calls Tryz.prog 16 #[.bool b] w fun e w' => e = .returned (flagM b).val ∧ Fresh w w' := by
  go_enter Tryz.func16, Tryz.ntmps16
  go_wp2
  exact bodyPost_ret (v := (flagM b).val) (by simp [results, Tryz.results16, go_sem, flagM, v.M.val]) rfl ⟨rfl, (Fresh.refl w).alloc _⟩
theorem byName_raw (s : ByteArray) (n t g : Bool) (w : World) (e1 : (s.toList == [110, 117, 108, 108]) = n) (e2 : (s.toList == [116, 114, 117, 101]) = t) (e3 : (s.toList == [102, 97, 108, 115, 101]) = g)
    (h1 : n = true → t = false ∧ g = false) (h2 : t = true → g = false) :
    Calls Tryz.prog 32 #[.string s] w fun e w' => e = .returned (.tuple #[(if t || g then flagM t else v.M.zero).val, .bool (n || (t || g))]) ∧ Fresh w w' := by
  cases n
  · cases t
    · cases g
      · show Calls Tryz.prog 32 #[.string s] w fun e w' => e = .returned (.tuple #[v.M.zero.val, .bool false]) ∧ Fresh w w'
        clear h1 h2
        go_enter Tryz.func32, Tryz.ntmps32
        go_wp2_with fail
        exact bodyPost_ret (v := .tuple #[v.M.zero.val, .bool false]) (by simp [results, Tryz.results32, go_sem, v.M.zero, v.M.val]) rfl ⟨rfl, (Fresh.refl w).alloc _⟩
      · show Calls Tryz.prog 32 #[.string s] w fun e w' => e = .returned (.tuple #[(flagM false).val, .bool true]) ∧ Fresh w w'
        clear h1 h2
        have HY := Lib.hid (fun W => yes_raw false W)
        have HB := Lib.hid (VBox.new w)
        have HF0 := Lib.hid ((Fresh.refl w).alloc (.cells zcells 27 (0, 0)))
        go_enter Tryz.func32, Tryz.ntmps32
        go_wp2_with fail
        generalize w.alloc (.cells zcells 27 (0, 0)) = w0 at *
        generalize hsz : w.heap.size = sz at *
        have HSZ := Lib.hid hsz
        clear hsz
        refine (HY.out _).mono ?_
        rintro e w1 ⟨rfl, hf⟩
        obtain ⟨c0, c1, c2, c3, c4, c5, f, lt⟩ := (HB.out.move hf).facts
        have HF := Lib.hid hf
        have f0 := f 0; have f1 := f 1; have f2 := f 2; have f3 := f 3; have f4 := f 4; have f5 := f 5
        clear hf f HY HB
        unfold flagM v.M.val
        go_wp2
        refine bodyPost_ret (v := .tuple #[(flagM false).val, .bool true]) (by simp [results, Tryz.results32, go_sem, flagM, v.M.val, *]) rfl ⟨rfl, ?_⟩
        exact Wr.toFresh (p := fun k => w.heap.size ≤ k) (((Wr.of_fresh HF0.out).fresh HF.out).set6 (.inl (Nat.le_of_eq HSZ.out)) _ _ _ _ _ _) (fun k hk h => by omega)
    · obtain rfl := h2 rfl
      show Calls Tryz.prog 32 #[.string s] w fun e w' => e = .returned (.tuple #[(flagM true).val, .bool true]) ∧ Fresh w w'
      clear h1 h2
      have HY := Lib.hid (fun W => yes_raw true W)
      have HB := Lib.hid (VBox.new w)
      have HF0 := Lib.hid ((Fresh.refl w).alloc (.cells zcells 27 (0, 0)))
      go_enter Tryz.func32, Tryz.ntmps32
      go_wp2_with fail
      generalize w.alloc (.cells zcells 27 (0, 0)) = w0 at *
      generalize hsz : w.heap.size = sz at *
      have HSZ := Lib.hid hsz
      clear hsz
      refine (HY.out _).mono ?_
      rintro e w1 ⟨rfl, hf⟩
      obtain ⟨c0, c1, c2, c3, c4, c5, f, lt⟩ := (HB.out.move hf).facts
      have HF := Lib.hid hf
      have f0 := f 0; have f1 := f 1; have f2 := f 2; have f3 := f 3; have f4 := f 4; have f5 := f 5
      clear hf f HY HB
      unfold flagM v.M.val
      go_wp2
      refine bodyPost_ret (v := .tuple #[(flagM true).val, .bool true]) (by simp [results, Tryz.results32, go_sem, flagM, v.M.val, *]) rfl ⟨rfl, ?_⟩
      exact Wr.toFresh (p := fun k => w.heap.size ≤ k) (((Wr.of_fresh HF0.out).fresh HF.out).set6 (.inl (Nat.le_of_eq HSZ.out)) _ _ _ _ _ _) (fun k hk h => by omega)
  · obtain ⟨rfl, rfl⟩ := h1 rfl
    show Calls Tryz.prog 32 #[.string s] w fun e w' => e = .returned (.tuple #[v.M.zero.val, .bool true]) ∧ Fresh w w'
    clear h1 h2
    go_enter Tryz.func32, Tryz.ntmps32
    go_wp2_with fail
    exact bodyPost_ret (v := .tuple #[v.M.zero.val, .bool true]) (by simp [results, Tryz.results32, go_sem, v.M.zero, v.M.val]) rfl ⟨rfl, (Fresh.refl w).alloc _⟩
theorem byName_any (l : List UInt8) (w : World) :
    Calls Tryz.prog 32 #[.string (tx l)] w fun e w' => e = .returned (.tuple #[(nameM l).val, .bool (namedB l)]) ∧ Fresh w w' := by
  have h := byName_raw (tx l) (decide (l = tNull)) (decide (l = tTrue)) (decide (l = tFalse)) w (tx_eq l _) (tx_eq l _) (tx_eq l _)
    (fun e => by have := of_decide_eq_true e; subst this; decide) (fun e => by have := of_decide_eq_true e; subst this; decide)
  have e : (if (decide (l = tTrue) || decide (l = tFalse)) = true then flagM (decide (l = tTrue)) else v.M.zero) = nameM l := by
    unfold nameM
    by_cases h1 : l = tTrue
    · simp [h1]
    by_cases h2 : l = tFalse
    · subst h2; rfl
    · simp [h1, h2]
  rw [e] at h
  exact h
end y
end Go.Proofs.YtcljplkkgpjhlaaGreatDoorR
