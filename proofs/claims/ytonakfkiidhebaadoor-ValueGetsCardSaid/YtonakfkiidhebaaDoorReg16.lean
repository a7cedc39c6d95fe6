/-
  The statements' own Build: a list's round, its last statement (both lists grow by one).
-/
import Derived.Test.YtonakfkiidhebaaDoorBuildBase
import Derived.Test.YtonakfkiidhebaaDoorOrders
namespace Go.Proofs.YtonakfkiidhebaaDoor
open Go.ChangeShapes Go.WideShapes Go.ChangeAt Go.RowKit
attribute [local go_sem ↓] Go.wp_at_zero Go.wp_at_succ

def ops16 : Array Oper := #[{ dst := some 81, op := .fieldAddr 29 (.tmp 9) 4, type := 0, pos := "law.go:39", after := #[], guard := none }, { dst := some 82, op := .load 26 (.tmp 81), type := 26, pos := "law.go:39", after := #[{ on := 0, ground := .data }], guard := none }, { dst := some 83, op := .load 29 (.tmp 12), type := 29, pos := "law.go:39", after := #[], guard := none }, { dst := some 84, op := .buildSlice 26 1 #[(0, .tmp 83)], type := 26, pos := "law.go:39", after := #[{ on := 2, ground := .data }], guard := none }, { dst := some 85, op := .call { callee := .builtin .append, args := #[.tmp 82, .tmp 84], argTypes := #[26, 26] }, type := 26, pos := "law.go:39", after := #[{ on := 1, ground := .data }, { on := 3, ground := .data }], guard := none }, { dst := some 86, op := .fieldAddr 33 (.tmp 10) 4, type := 0, pos := "law.go:39", after := #[], guard := none }, { dst := some 87, op := .load 30 (.tmp 86), type := 30, pos := "law.go:39", after := #[{ on := 5, ground := .data }], guard := none }, { dst := some 88, op := .load 33 (.tmp 13), type := 33, pos := "law.go:39", after := #[], guard := none }, { dst := some 89, op := .buildSlice 30 1 #[(0, .tmp 88)], type := 30, pos := "law.go:39", after := #[{ on := 7, ground := .data }], guard := none }, { dst := some 90, op := .call { callee := .builtin .append, args := #[.tmp 87, .tmp 89], argTypes := #[30, 30] }, type := 30, pos := "law.go:39", after := #[{ on := 6, ground := .data }, { on := 8, ground := .data }, { on := 4, ground := .chain }], guard := none }, { dst := some 91, op := .fieldAddr 29 (.tmp 9) 4, type := 0, pos := "law.go:39", after := #[{ on := 0, ground := .phase }, { on := 1, ground := .phase }, { on := 2, ground := .phase }, { on := 3, ground := .phase }, { on := 4, ground := .phase }, { on := 5, ground := .textOnly .lateStores }, { on := 6, ground := .textOnly .lateStores }, { on := 7, ground := .textOnly .lateStores }, { on := 8, ground := .textOnly .lateStores }, { on := 9, ground := .textOnly .lateStoresUnsure }], guard := none }, { dst := none, op := .store 26 (.tmp 91) (.tmp 85), type := 0, pos := "law.go:39", after := #[{ on := 10, ground := .data }, { on := 4, ground := .data }, { on := 9, ground := .chain }, { on := 0, ground := .phase }, { on := 1, ground := .phase }, { on := 2, ground := .phase }, { on := 3, ground := .phase }, { on := 4, ground := .phase }, { on := 5, ground := .textOnly .lateStores }, { on := 6, ground := .textOnly .lateStores }, { on := 7, ground := .textOnly .lateStores }, { on := 8, ground := .textOnly .lateStores }, { on := 9, ground := .textOnly .lateStoresUnsure }], guard := none }, { dst := some 92, op := .fieldAddr 33 (.tmp 10) 4, type := 0, pos := "law.go:39", after := #[{ on := 0, ground := .phase }, { on := 1, ground := .phase }, { on := 2, ground := .phase }, { on := 3, ground := .phase }, { on := 4, ground := .phase }, { on := 5, ground := .phase }, { on := 6, ground := .phase }, { on := 7, ground := .phase }, { on := 8, ground := .phase }, { on := 9, ground := .phase }, { on := 10, ground := .phase }, { on := 11, ground := .phase }], guard := none }, { dst := none, op := .store 30 (.tmp 92) (.tmp 90), type := 0, pos := "law.go:39", after := #[{ on := 12, ground := .data }, { on := 9, ground := .data }, { on := 11, ground := .chain }, { on := 0, ground := .phase }, { on := 1, ground := .phase }, { on := 2, ground := .phase }, { on := 3, ground := .phase }, { on := 4, ground := .phase }, { on := 5, ground := .phase }, { on := 6, ground := .phase }, { on := 7, ground := .phase }, { on := 8, ground := .phase }, { on := 9, ground := .phase }, { on := 10, ground := .phase }, { on := 11, ground := .phase }], guard := none }]
def o16_3 : Oper := { dst := some 84, op := .buildSlice 26 1 #[(0, .tmp 83)], type := 26, pos := "law.go:39", after := #[{ on := 2, ground := .data }], guard := none }
def o16_4 : Oper := { dst := some 85, op := .call { callee := .builtin .append, args := #[.tmp 82, .tmp 84], argTypes := #[26, 26] }, type := 26, pos := "law.go:39", after := #[{ on := 1, ground := .data }, { on := 3, ground := .data }], guard := none }
def o16_8 : Oper := { dst := some 89, op := .buildSlice 30 1 #[(0, .tmp 88)], type := 30, pos := "law.go:39", after := #[{ on := 7, ground := .data }], guard := none }
def o16_9 : Oper := { dst := some 90, op := .call { callee := .builtin .append, args := #[.tmp 87, .tmp 89], argTypes := #[30, 30] }, type := 30, pos := "law.go:39", after := #[{ on := 6, ground := .data }, { on := 8, ground := .data }, { on := 4, ground := .chain }], guard := none }
def o16_10 : Oper := { dst := some 91, op := .fieldAddr 29 (.tmp 9) 4, type := 0, pos := "law.go:39", after := #[{ on := 0, ground := .phase }, { on := 1, ground := .phase }, { on := 2, ground := .phase }, { on := 3, ground := .phase }, { on := 4, ground := .phase }, { on := 5, ground := .textOnly .lateStores }, { on := 6, ground := .textOnly .lateStores }, { on := 7, ground := .textOnly .lateStores }, { on := 8, ground := .textOnly .lateStores }, { on := 9, ground := .textOnly .lateStoresUnsure }], guard := none }
def o16_11 : Oper := { dst := none, op := .store 26 (.tmp 91) (.tmp 85), type := 0, pos := "law.go:39", after := #[{ on := 10, ground := .data }, { on := 4, ground := .data }, { on := 9, ground := .chain }, { on := 0, ground := .phase }, { on := 1, ground := .phase }, { on := 2, ground := .phase }, { on := 3, ground := .phase }, { on := 4, ground := .phase }, { on := 5, ground := .textOnly .lateStores }, { on := 6, ground := .textOnly .lateStores }, { on := 7, ground := .textOnly .lateStores }, { on := 8, ground := .textOnly .lateStores }, { on := 9, ground := .textOnly .lateStoresUnsure }], guard := none }
def o16_12 : Oper := { dst := some 92, op := .fieldAddr 33 (.tmp 10) 4, type := 0, pos := "law.go:39", after := #[{ on := 0, ground := .phase }, { on := 1, ground := .phase }, { on := 2, ground := .phase }, { on := 3, ground := .phase }, { on := 4, ground := .phase }, { on := 5, ground := .phase }, { on := 6, ground := .phase }, { on := 7, ground := .phase }, { on := 8, ground := .phase }, { on := 9, ground := .phase }, { on := 10, ground := .phase }, { on := 11, ground := .phase }], guard := none }
def o16_13 : Oper := { dst := none, op := .store 30 (.tmp 92) (.tmp 90), type := 0, pos := "law.go:39", after := #[{ on := 12, ground := .data }, { on := 9, ground := .data }, { on := 11, ground := .chain }, { on := 0, ground := .phase }, { on := 1, ground := .phase }, { on := 2, ground := .phase }, { on := 3, ground := .phase }, { on := 4, ground := .phase }, { on := 5, ground := .phase }, { on := 6, ground := .phase }, { on := 7, ground := .phase }, { on := 8, ground := .phase }, { on := 9, ground := .phase }, { on := 10, ground := .phase }, { on := 11, ground := .phase }], guard := none }
def tail16 (k : Nat) : Bool := k == 11 || k == 12 || k == 13
def done16 (i j : Nat) : Array Bool := #[true, true, true, decide (1 ≤ i), decide (2 ≤ i), true, true, true, decide (1 ≤ j), decide (2 ≤ j), decide (3 ≤ i), false, false, false]
def x16 : Nat → Nat | 0 => 3 | 1 => 4 | _ => 10
def y16 : Nat → Nat | 0 => 8 | _ => 9
theorem grid16 : gridB .any ops16 x16 y16 3 2 done16 = true := by kernel_rfl
/-- What stands still: where the boxes lie, and what the new elements are. -/
structure Cx where
  wo : World
  B : Nat
  k : Int
  m : Int
  f : Bool
  nn : Int
  s : ByteArray
  b1 : Nat
  b2 : Nat
  yk : Int
  yf : Bool
  yn : Int
  ys : ByteArray
  yla : Option Addr
  yln : Nat
  ylc : Nat
  yka : Option Addr
  ykn : Nat
  ykc : Nat
  zk : Int
  zf : Bool
  zn : Int
  zs : ByteArray
  zla : Option Addr
  zln : Nat
  zlc : Nat
  zka : Option Addr
  zkn : Nat
  zkc : Nat
  y : M
  z : M
  la : Option Addr
  lz : Option Addr
  j : Nat
  lc : Nat
  lzc : Nat
  xs : List M
  zs' : List M
def Cx.cs (c : Cx) : Array Value := #[.int .i64 c.yk, .bool c.yf, .int .i64 c.yn, .string c.ys, .slice c.yla c.yln c.ylc, .slice c.yka c.ykn c.ykc]
def Cx.ds (c : Cx) : Array Value := #[.int .i64 c.zk, .bool c.zf, .int .i64 c.zn, .string c.zs, .slice c.zla c.zln c.zlc, .slice c.zka c.zkn c.zkc]
def Cx.mid (c : Cx) (u : World) (ax az : Option Addr) (jx jz cx cz : Nat) (xs ys : List M) : Prop :=
  Mid c.wo u c.B c.k c.m c.f c.nn c.s (.slice c.la c.j c.lc) (.slice c.lz c.j c.lzc) c.b1 c.b2 c.cs c.ds ax az jx jz cx cz xs ys
/-- The cells that the loads read. -/
def Cx.S (c : Cx) (u : World) : Prop :=
  u.cell? ⟨c.B + 1, 4, none⟩ = some (.slice c.la c.j c.lc) ∧ u.cell? ⟨c.B + 1 + 1, 4, none⟩ = some (.slice c.lz c.j c.lzc) ∧
  (u.cell? ⟨c.b1, 0, none⟩ = some (.int .i64 c.yk) ∧ u.cell? ⟨c.b1, 1, none⟩ = some (.bool c.yf) ∧ u.cell? ⟨c.b1, 2, none⟩ = some (.int .i64 c.yn) ∧ u.cell? ⟨c.b1, 3, none⟩ = some (.string c.ys) ∧ u.cell? ⟨c.b1, 4, none⟩ = some (.slice c.yla c.yln c.ylc) ∧ u.cell? ⟨c.b1, 5, none⟩ = some (.slice c.yka c.ykn c.ykc)) ∧
  (u.cell? ⟨c.b2, 0, none⟩ = some (.int .i64 c.zk) ∧ u.cell? ⟨c.b2, 1, none⟩ = some (.bool c.zf) ∧ u.cell? ⟨c.b2, 2, none⟩ = some (.int .i64 c.zn) ∧ u.cell? ⟨c.b2, 3, none⟩ = some (.string c.zs) ∧ u.cell? ⟨c.b2, 4, none⟩ = some (.slice c.zla c.zln c.zlc) ∧ u.cell? ⟨c.b2, 5, none⟩ = some (.slice c.zka c.zkn c.zkc))
theorem Cx.mid_S {c : Cx} {u : World} {ax az : Option Addr} {jx jz cx cz : Nat} {xs ys : List M} (h : c.mid u ax az jx jz cx cz xs ys) : c.S u :=
  ⟨cell_of_at h.bx rfl, cell_of_at h.bz rfl, ⟨cell_of_at h.h1 rfl, cell_of_at h.h1 rfl, cell_of_at h.h1 rfl, cell_of_at h.h1 rfl, cell_of_at h.h1 rfl, cell_of_at h.h1 rfl⟩, ⟨cell_of_at h.h2 rfl, cell_of_at h.h2 rfl, cell_of_at h.h2 rfl, cell_of_at h.h2 rfl, cell_of_at h.h2 rfl, cell_of_at h.h2 rfl⟩⟩
/-- How far the first chain is. -/
def Cx.X (c : Cx) (i : Nat) (u : World) (a b : Act) (ax : Option Addr) (jx cx : Nat) (xs : List M) : Prop :=
  match i with
  | 0 => b = a ∧ ax = c.la ∧ jx = c.j ∧ cx = c.lc ∧ xs = c.xs
  | 1 => ∃ k1, b = a.put (some 84) (.slice (some ⟨k1, 0, none⟩) 1 1) ∧ u.heap[k1]? = some (.cells c.cs 29 (0, 0)) ∧ (∀ ad : Addr, c.la = some ad → ad.block ≠ k1) ∧ ax = c.la ∧ jx = c.j ∧ cx = c.lc ∧ xs = c.xs
  | 2 => ∃ k1 g', b = (a.put (some 84) (.slice (some ⟨k1, 0, none⟩) 1 1)).put (some 85) (.slice (some ⟨g', 0, none⟩) (c.j + 1) cx) ∧ ax = some ⟨g', 0, none⟩ ∧ jx = c.j + 1 ∧ xs = c.xs ++ [c.y]
  | _ => ∃ k1 g', b = ((a.put (some 84) (.slice (some ⟨k1, 0, none⟩) 1 1)).put (some 85) (.slice (some ⟨g', 0, none⟩) (c.j + 1) cx)).put (some 91) (.pointer (some ⟨c.B + 1, 4, none⟩)) ∧ ax = some ⟨g', 0, none⟩ ∧ jx = c.j + 1 ∧ xs = c.xs ++ [c.y]
/-- How far the second one is. -/
def Cx.Y (c : Cx) (j : Nat) (u : World) (a b : Act) (az : Option Addr) (jz cz : Nat) (ys : List M) : Prop :=
  match j with
  | 0 => b = a ∧ az = c.lz ∧ jz = c.j ∧ cz = c.lzc ∧ ys = c.zs'
  | 1 => ∃ k2, b = a.put (some 89) (.slice (some ⟨k2, 0, none⟩) 1 1) ∧ u.heap[k2]? = some (.cells c.ds 33 (0, 0)) ∧ (∀ ad : Addr, c.lz = some ad → ad.block ≠ k2) ∧ az = c.lz ∧ jz = c.j ∧ cz = c.lzc ∧ ys = c.zs'
  | _ => ∃ k2 g', b = (a.put (some 89) (.slice (some ⟨k2, 0, none⟩) 1 1)).put (some 90) (.slice (some ⟨g', 0, none⟩) (c.j + 1) cz) ∧ az = some ⟨g', 0, none⟩ ∧ jz = c.j + 1 ∧ ys = c.zs' ++ [c.z]
theorem Cx.X.eval {c : Cx} {i : Nat} {u : World} {a b : Act} {ax : Option Addr} {jx cx : Nat} {xs : List M} (h : c.X i u a b ax jx cx xs) {t : Nat} (h1 : t ≠ 84) (h2 : t ≠ 85) (h3 : t ≠ 91) : b.eval (.tmp t) = a.eval (.tmp t) := by
  match i, h with
  | 0, h => rw [h.1]
  | 1, ⟨_, e, _⟩ => rw [e, ev_ne (Ne.symm h1)]
  | 2, ⟨_, _, e, _⟩ => rw [e, ev_ne (Ne.symm h2), ev_ne (Ne.symm h1)]
  | _ + 3, ⟨_, _, e, _⟩ => rw [e, ev_ne (Ne.symm h3), ev_ne (Ne.symm h2), ev_ne (Ne.symm h1)]
theorem Cx.Y.eval {c : Cx} {j : Nat} {u : World} {a b : Act} {az : Option Addr} {jz cz : Nat} {ys : List M} (h : c.Y j u a b az jz cz ys) {t : Nat} (h1 : t ≠ 89) (h2 : t ≠ 90) : b.eval (.tmp t) = a.eval (.tmp t) := by
  match j, h with
  | 0, h => rw [h.1]
  | 1, ⟨_, e, _⟩ => rw [e, ev_ne (Ne.symm h1)]
  | _ + 2, ⟨_, _, e, _⟩ => rw [e, ev_ne (Ne.symm h2), ev_ne (Ne.symm h1)]
theorem Cx.X.size {c : Cx} {i : Nat} {u : World} {a b : Act} {ax : Option Addr} {jx cx : Nat} {xs : List M} (h : c.X i u a b ax jx cx xs) : b.tmps.size = a.tmps.size := by
  match i, h with
  | 0, h => rw [h.1]
  | 1, ⟨_, e, _⟩ => rw [e, put_size]
  | 2, ⟨_, _, e, _⟩ => rw [e, put_size, put_size]
  | _ + 3, ⟨_, _, e, _⟩ => rw [e, put_size, put_size, put_size]
theorem Cx.Y.size {c : Cx} {j : Nat} {u : World} {a b : Act} {az : Option Addr} {jz cz : Nat} {ys : List M} (h : c.Y j u a b az jz cz ys) : b.tmps.size = a.tmps.size := by
  match j, h with
  | 0, h => rw [h.1]
  | 1, ⟨_, e, _⟩ => rw [e, put_size]
  | _ + 2, ⟨_, _, e, _⟩ => rw [e, put_size, put_size]
/-- A step of the first chain leaves the second one as it is. -/
theorem Cx.Y.step {c : Cx} {j : Nat} {u u' : World} {a b : Act} {az : Option Addr} {jz cz : Nat} {ys : List M} (h : c.Y j u a b az jz cz ys) (d : Nat) (v : Value) (h1 : d ≠ 89) (h2 : d ≠ 90) (hw : ∀ k o, (j = 1 → u.heap[k]? = some o → o = .cells c.ds 33 (0, 0) → (∀ ad : Addr, c.lz = some ad → ad.block ≠ k) → u'.heap[k]? = some o)) : c.Y j u' (a.put (some d) v) (b.put (some d) v) az jz cz ys := by
  match j, h with
  | 0, h => exact ⟨by rw [h.1], h.2⟩
  | 1, ⟨k2, e, hb, hn, h⟩ => exact ⟨k2, by rw [e, put_swap (Ne.symm h1)], hw k2 _ rfl hb rfl hn, hn, h⟩
  | _ + 2, ⟨k2, g', e, h⟩ => exact ⟨k2, g', by rw [e, put_swap (Ne.symm h2), put_swap (Ne.symm h1)], h⟩
theorem Cx.X.move {c : Cx} {i : Nat} {u u' : World} {a b : Act} {ax : Option Addr} {jx cx : Nat} {xs : List M} (h : c.X i u a b ax jx cx xs) (hw : ∀ k o, (i = 1 → u.heap[k]? = some o → o = .cells c.cs 29 (0, 0) → (∀ ad : Addr, c.la = some ad → ad.block ≠ k) → u'.heap[k]? = some o)) : c.X i u' a b ax jx cx xs := by
  match i, h with
  | 0, h => exact h
  | 1, ⟨k1, e, hb, hn, h⟩ => exact ⟨k1, e, hw k1 _ rfl hb rfl hn, hn, h⟩
  | 2, h => exact h
  | _ + 3, h => exact h
/-- What holds at a place of the grid. -/
def Cx.I (c : Cx) (a : Act) (i j : Nat) (b : Act) (u : World) : Prop :=
  ∃ (bm : Act) (ax az : Option Addr) (jx jz cx cz : Nat) (xs ys : List M), c.X i u a bm ax jx cx xs ∧ c.Y j u bm b az jz cz ys ∧ c.mid u ax az jx jz cx cz xs ys
/-- What the region finds in its slots, behind its loads. -/
structure Cx.At (c : Cx) (a : Act) : Prop where
  size : a.tmps.size = 158
  e9 : a.eval (.tmp 9) = .pointer (some ⟨c.B + 1, 0, none⟩)
  e10 : a.eval (.tmp 10) = .pointer (some ⟨c.B + 1 + 1, 0, none⟩)
  e82 : a.eval (.tmp 82) = .slice c.la c.j c.lc
  e83 : a.eval (.tmp 83) = .agg c.cs
  e87 : a.eval (.tmp 87) = .slice c.lz c.j c.lzc
  e88 : a.eval (.tmp 88) = .agg c.ds
  hy : c.y.cells = c.cs.toList
  hz : c.z.cells = c.ds.toList
  hj : c.j ≤ 100
variable {c : Cx} {a : Act} {Q : Exit → Act → World → Prop}
theorem box_frozen {w : World} {b : Nat} {c0 c1 c2 c3 c4 c5 : Value} {T : TypeId} (h : w.heap[b]? = some (.cells #[c0, c1, c2, c3, c4, c5] T (0, 0))) : w.frozen? ⟨b, 4, none⟩ = false ∧ w.frozen? ⟨b, 5, none⟩ = false := by
  simp [World.frozen?, h]
theorem info33 : (Tryd.prog.info? 33).map (fun i => (i.zero, i.size, i.bytes)) = some (some (.agg #[.int .i64 0, .bool false, .int .i64 0, .string ⟨#[]⟩, .slice none 0 0, .slice none 0 0]), 6, 88) := by kernel_rfl
theorem Mid.stored {wo W : World} {B : Nat} {k m : Int} {f : Bool} {nn : Int} {s : ByteArray} {bvx bvz : Value} {b1 b2 : Nat} {cs ds : Array Value} {ax az : Option Addr} {j cx cz : Nat} {xs ys : List M} (h : Mid wo W B k m f nn s bvx bvz b1 b2 cs ds ax az j j cx cz xs ys) :
    Lists wo ((W.setCell ⟨B + 1, 4, none⟩ (.slice ax j cx)).setCell ⟨B + 1 + 1, 4, none⟩ (.slice az j cz)) B k m f nn s j ax az cx cz xs ys := by
  have g1 := grown_set W (B + 1) 4 (.slice ax j cx)
  have g2 := grown_set (W.setCell ⟨B + 1, 4, none⟩ (.slice ax j cx)) (B + 1 + 1) 4 (.slice az j cz)
  have nb : ∀ (ad : Addr) (c : Nat), B + 3 ≤ ad.block → c < B + 3 → some ad.block ≠ some c := fun ad c h1 h2 e => by injection e with e; omega
  refine ⟨h.hB, ?_, ?_, ?_, ?_, ?_, ?_⟩
  · rw [Below.heap_setCell _ _ _ _ (by show B ≠ B + 1 + 1; omega), Below.heap_setCell _ _ _ _ (by show B ≠ B + 1; omega)]; exact h.bp
  · rw [Below.heap_setCell _ _ _ _ (by show B + 1 ≠ B + 1 + 1; omega)]
    simp [World.setCell, Array.getElem?_modify, h.bx]
  · have := h.bz
    simp [World.setCell, Array.getElem?_modify, this]
  · exact kept_row (kept_row h.rx g1 (fun ad e => nb ad _ (own_type h.rx ad e).1 (by omega))) g2 (fun ad e => nb ad _ (own_type h.rx ad e).1 (by omega))
  · exact kept_row (kept_row h.rz g1 (fun ad e => nb ad _ (own_type h.rz ad e).1 (by omega))) g2 (fun ad e => nb ad _ (own_type h.rz ad e).1 (by omega))
  · exact (h.fresh.setCell (by rw [h.hB]; show B ≤ B + 1; omega) _).setCell (by rw [h.hB]; show B ≤ B + 1 + 1; omega) _
theorem wpOp_run {P : Program} {ops : Array Oper} {i : Nat} {o : Oper} {K : Act → World → Prop} {b : Act} {w w' : World} {v : Value} (hi : ops[i]? = some o) (hg : o.guard = none) (hr : (execOp b.eval o).run P w = .ok (.value v) w') (h : K (b.put o.dst v) w') : wpOp P ops Q i K b w := by
  refine wpOp_of hi hg ?_
  unfold Oper.wp
  rw [hr]
  exact h
theorem ev_get {a : Act} {t : Nat} {v : Value} (h : a.eval (.tmp t) = v) : a.tmps[t]?.getD undef = v := by
  rw [← h]; simp [Act.eval]
theorem type_ne {w : World} {b b' : Nat} {cs ds : Array Value} {t t' : TypeId} (h : w.heap[b]? = some (.cells cs t (0, 0))) (h' : w.heap[b']? = some (.cells ds t' (0, 0))) (hn : t ≠ t') : b ≠ b' := by
  intro e
  rw [e, h'] at h
  injection h with h
  injection h with _ h _
  exact hn h.symm
theorem Cx.I_x {c : Cx} {a : Act} {i' j : Nat} {u u' : World} {bm b : Act} {az ax' : Option Addr} {jz cz jx' cx' : Nat} {ys xs' : List M} {d : Nat} {v : Value} (hY : c.Y j u bm b az jz cz ys) (h1 : d ≠ 89) (h2 : d ≠ 90)
    (hw : ∀ k o, (j = 1 → u.heap[k]? = some o → o = .cells c.ds 33 (0, 0) → (∀ ad : Addr, c.lz = some ad → ad.block ≠ k) → u'.heap[k]? = some o))
    (hX : c.X i' u' a (bm.put (some d) v) ax' jx' cx' xs') (hM : c.mid u' ax' az jx' jz cx' cz xs' ys) : c.S u' ∧ c.I a i' j (b.put (some d) v) u' :=
  ⟨Cx.mid_S hM, _, ax', az, jx', jz, cx', cz, xs', ys, hX, hY.step d v h1 h2 hw, hM⟩
theorem Cx.I_y {c : Cx} {a : Act} {i j' : Nat} {u u' : World} {bm b : Act} {ax az' : Option Addr} {jx cx jz' cz' : Nat} {xs ys' : List M} (hX : c.X i u a bm ax jx cx xs)
    (hw : ∀ k o, (i = 1 → u.heap[k]? = some o → o = .cells c.cs 29 (0, 0) → (∀ ad : Addr, c.la = some ad → ad.block ≠ k) → u'.heap[k]? = some o))
    (hY : c.Y j' u' bm b az' jz' cz' ys') (hM : c.mid u' ax az' jx jz' cx cz' xs ys') : c.S u' ∧ c.I a i j' b u' :=
  ⟨Cx.mid_S hM, bm, ax, az', jx, jz', cx, cz', xs, ys', hX.move hw, hY, hM⟩
set_option maxRecDepth 100000 in
theorem step_x0 (ha : c.At a) (j : Nat) (b : Act) (u : World) (h : c.I a 0 j b u) : wpOp Tryd.prog ops16 Q 3 (fun b u => c.S u ∧ c.I a 1 j b u) b u := by
  obtain ⟨bm, ax, az, jx, jz, cx, cz, xs, ys, ⟨e1, rfl, rfl, rfl, rfl⟩, hY, hM⟩ := h
  subst e1
  have g83 := ev_get ((hY.eval (t := 83) (by decide) (by decide)).trans ha.e83)
  unfold Cx.cs at g83
  have hrun : (execOp b.eval o16_3).run Tryd.prog u = .ok (.value (.slice (some ⟨u.heap.size, 0, none⟩) 1 1)) (u.alloc (.cells c.cs 29)) := by
    simp [execOp, o16_3, g83, go_sem, Cx.cs]
  have hal := (Fresh.refl u).alloc (.cells c.cs 29)
  exact wpOp_run (by rfl) rfl hrun (Cx.I_x (d := 84) hY (by decide) (by decide) (fun k o _ hk _ _ => at_alloc hk) ⟨u.heap.size, rfl, at_new u _, fun ad e => by have := (own_type hM.rx ad e).2.1; omega, rfl, rfl, rfl, rfl⟩ (hM.move hal))
set_option maxRecDepth 100000 in
theorem step_x1 (ha : c.At a) (j : Nat) (b : Act) (u : World) (h : c.I a 1 j b u) : wpOp Tryd.prog ops16 Q 4 (fun b u => c.S u ∧ c.I a 2 j b u) b u := by
  obtain ⟨bm, ax, az, jx, jz, cx, cz, xs, ys, ⟨k1, e1, hb, hn, rfl, rfl, rfl, rfl⟩, hY, hM⟩ := h
  obtain ⟨i0, hi, hz0, hz1, hz2⟩ := info_parts info29
  have hbm : bm.tmps.size = 158 := by rw [e1, put_size]; exact ha.size
  have e82 : b.eval (.tmp 82) = .slice c.la c.j c.lc := by rw [hY.eval (by decide) (by decide), e1, ev_ne (by decide)]; exact ha.e82
  have e84 : b.eval (.tmp 84) = .slice (some ⟨k1, 0, none⟩) 1 1 := by rw [hY.eval (by decide) (by decide), e1]; exact ev_same (by rw [ha.size]; decide)
  have hj := ha.hj
  have hlow : c.B + 3 ≤ u.heap.size := by have := lt_of_at hM.bz; omega
  refine wpOp_of (o := o16_4) (by rfl) rfl ?_
  refine wp_append_lies (P := Tryd.prog) u (.tmp 82) (.tmp 84) 26 (by rfl) (c.B + 3) 29 i0 _ 6 88 Tryd.underlying26 hi hz0 hz1 hz2 (by rfl) (by decide) (.slice c.la c.j c.lc) c.j (mcells c.xs) e82 hM.rx ⟨k1, 0, none⟩ 1 1 c.cs.toList e84 (by rfl) (World.news_of_block hb) (fun v hv => by
      unfold Cx.cs at hv
      simp only [List.mem_cons, List.not_mem_nil, or_false] at hv
      rcases hv with rfl | rfl | rfl | rfl | rfl | rfl <;> rfl) (by decide) (by unfold maxLen; omega) (by omega) hlow u.heap.size rfl ?_
  intro g' cap' w5 hown5 hgrow5 hat5 hlt5
  have hM2 : c.mid w5 (some ⟨g', 0, none⟩) az (c.j + 1) jz cap' cz (c.xs ++ [c.y]) ys := Mid.pushx hM (by rw [ha.hy]; exact hown5) hgrow5 hat5
  refine Cx.I_x (d := 85) hY (by decide) (by decide) (fun k o _ hk ho _ => grown_at hgrow5 hk (fun ad e => ?_)) ⟨k1, g', by rw [e1], rfl, rfl, rfl⟩ hM2
  obtain ⟨_, _, cur, h3⟩ := own_type hM.rx ad e
  subst ho
  exact type_ne h3 hk (by decide)
set_option maxRecDepth 100000 in
theorem step_x2 (ha : c.At a) (j : Nat) (b : Act) (u : World) (h : c.I a 2 j b u) : wpOp Tryd.prog ops16 Q 10 (fun b u => c.S u ∧ c.I a 3 j b u) b u := by
  obtain ⟨bm, ax, az, jx, jz, cx, cz, xs, ys, ⟨k1, g', e1, rfl, rfl, rfl⟩, hY, hM⟩ := h
  have g9 : b.tmps[9]?.getD undef = .pointer (some ⟨c.B + 1, 0, none⟩) := ev_get (by rw [hY.eval (by decide) (by decide), e1, ev_ne (by decide), ev_ne (by decide)]; exact ha.e9)
  have hrun : (execOp b.eval o16_10).run Tryd.prog u = .ok (.value (.pointer (some ⟨c.B + 1, 4, none⟩))) u := by
    simp [execOp, o16_10, g9, go_sem]
  exact wpOp_run (by rfl) rfl hrun (Cx.I_x (d := 91) hY (by decide) (by decide) (fun k o _ hk _ _ => hk) ⟨k1, g', by rw [e1], rfl, rfl, rfl⟩ hM)
set_option maxRecDepth 100000 in
theorem step_y0 (ha : c.At a) (i : Nat) (b : Act) (u : World) (h : c.I a i 0 b u) : wpOp Tryd.prog ops16 Q 8 (fun b u => c.S u ∧ c.I a i 1 b u) b u := by
  obtain ⟨bm, ax, az, jx, jz, cx, cz, xs, ys, hX, ⟨e1, rfl, rfl, rfl, rfl⟩, hM⟩ := h
  subst e1
  have g88 := ev_get ((hX.eval (t := 88) (by decide) (by decide) (by decide)).trans ha.e88)
  unfold Cx.ds at g88
  have hrun : (execOp b.eval o16_8).run Tryd.prog u = .ok (.value (.slice (some ⟨u.heap.size, 0, none⟩) 1 1)) (u.alloc (.cells c.ds 33)) := by
    simp [execOp, o16_8, g88, go_sem, Cx.ds]
  have hal := (Fresh.refl u).alloc (.cells c.ds 33)
  exact wpOp_run (by rfl) rfl hrun (Cx.I_y hX (fun k o _ hk _ _ => at_alloc hk) ⟨u.heap.size, rfl, at_new u _, fun ad e => by have := (own_type hM.rz ad e).2.1; omega, rfl, rfl, rfl, rfl⟩ (hM.move hal))
set_option maxRecDepth 100000 in
theorem step_y1 (ha : c.At a) (i : Nat) (b : Act) (u : World) (h : c.I a i 1 b u) : wpOp Tryd.prog ops16 Q 9 (fun b u => c.S u ∧ c.I a i 2 b u) b u := by
  obtain ⟨bm, ax, az, jx, jz, cx, cz, xs, ys, hX, ⟨k2, e1, hb, hn, rfl, rfl, rfl, rfl⟩, hM⟩ := h
  obtain ⟨i0, hi, hz0, hz1, hz2⟩ := info_parts info33
  have e87 : b.eval (.tmp 87) = .slice c.lz c.j c.lzc := by rw [e1, ev_ne (by decide), hX.eval (by decide) (by decide) (by decide)]; exact ha.e87
  have e89 : b.eval (.tmp 89) = .slice (some ⟨k2, 0, none⟩) 1 1 := by rw [e1]; exact ev_same (by rw [hX.size, ha.size]; decide)
  have hj := ha.hj
  have hlow : c.B + 3 ≤ u.heap.size := by have := lt_of_at hM.bz; omega
  refine wpOp_of (o := o16_9) (by rfl) rfl ?_
  refine wp_append_lies (P := Tryd.prog) u (.tmp 87) (.tmp 89) 30 (by rfl) (c.B + 3) 33 i0 _ 6 88 Tryd.underlying30 hi hz0 hz1 hz2 (by rfl) (by decide) (.slice c.lz c.j c.lzc) c.j (mcells c.zs') e87 hM.rz ⟨k2, 0, none⟩ 1 1 c.ds.toList e89 (by rfl) (World.news_of_block hb) (fun v hv => by
      unfold Cx.ds at hv
      simp only [List.mem_cons, List.not_mem_nil, or_false] at hv
      rcases hv with rfl | rfl | rfl | rfl | rfl | rfl <;> rfl) (by decide) (by unfold maxLen; omega) (by omega) hlow u.heap.size rfl ?_
  intro g' cap' w5 hown5 hgrow5 hat5 hlt5
  have hM2 : c.mid w5 ax (some ⟨g', 0, none⟩) jx (c.j + 1) cx cap' xs (c.zs' ++ [c.z]) := Mid.pushz hM (by rw [ha.hz]; exact hown5) hgrow5 hat5
  refine Cx.I_y hX (fun k o _ hk ho _ => grown_at hgrow5 hk (fun ad e => ?_)) ⟨k2, g', by rw [e1]; rfl, rfl, rfl, rfl⟩ hM2
  obtain ⟨_, _, cur, h3⟩ := own_type hM.rz ad e
  subst ho
  exact type_ne h3 hk (by decide)
set_option maxRecDepth 100000 in
/-- The tail: both stores. -/
theorem tail_any (ha : c.At a) (b : Act) (u : World) (h : c.I a 3 2 b u)
    (hQ : ∀ (k1 k2 g' g2 cap' cap2 : Nat) (u' : World), Lists c.wo u' c.B c.k c.m c.f c.nn c.s (c.j + 1) (some ⟨g', 0, none⟩) (some ⟨g2, 0, none⟩) cap' cap2 (c.xs ++ [c.y]) (c.zs' ++ [c.z]) →
      Q .normal ((((((a.put (some 84) (.slice (some ⟨k1, 0, none⟩) 1 1)).put (some 85) (.slice (some ⟨g', 0, none⟩) (c.j + 1) cap')).put (some 91) (.pointer (some ⟨c.B + 1, 4, none⟩))).put (some 89) (.slice (some ⟨k2, 0, none⟩) 1 1)).put (some 90) (.slice (some ⟨g2, 0, none⟩) (c.j + 1) cap2)).put (some 92) (.pointer (some ⟨c.B + 1 + 1, 4, none⟩))) u') :
    Any2 Tryd.prog .any ops16 Q c.S tail16 3 (done16 3 2) b u := by
  obtain ⟨bm, ax, az, jx, jz, cx, cz, xs, ys, ⟨k1, g', e1, rfl, rfl, rfl⟩, ⟨k2, g2, e2, rfl, rfl, rfl⟩, hM⟩ := h
  subst e1
  subst e2
  have hx4 := cell_of_at hM.bx (i := 4) rfl
  have hz4 := cell_of_at hM.bz (i := 4) rfl
  have fx := (box_frozen hM.bx).1
  have fz := (box_frozen hM.bz).1
  have sx := lt_of_at hM.bx
  have sz := lt_of_at hM.bz
  have hs := ha.size
  have e10 := ha.e10
  refine Any2.one (i := 11) (by kernel_rfl) (wpOp_of (o := o16_11) (by rfl) rfl ?_)
  generalize hb : (((((a.put (some 84) (.slice (some ⟨k1, 0, none⟩) 1 1)).put (some 85) (.slice (some ⟨g', 0, none⟩) (c.j + 1) cx)).put (some 91) (.pointer (some ⟨c.B + 1, 4, none⟩))).put (some 89) (.slice (some ⟨k2, 0, none⟩) 1 1)).put (some 90) (.slice (some ⟨g2, 0, none⟩) (c.j + 1) cz)) = b
  have g91 : b.tmps[91]?.getD undef = .pointer (some ⟨c.B + 1, 4, none⟩) := ev_get (by rw [← hb, ev_ne (by decide), ev_ne (by decide)]; exact ev_same (by rw [put_size, put_size, hs]; decide))
  have g85 : b.tmps[85]?.getD undef = .slice (some ⟨g', 0, none⟩) (c.j + 1) cx := ev_get (by rw [← hb, ev_ne (by decide), ev_ne (by decide), ev_ne (by decide)]; exact ev_same (by rw [put_size, hs]; decide))
  have g90 : b.tmps[90]?.getD undef = .slice (some ⟨g2, 0, none⟩) (c.j + 1) cz := ev_get (by rw [← hb]; exact ev_same (by rw [put_size, put_size, put_size, put_size, hs]; decide))
  have g10 : b.tmps[10]?.getD undef = .pointer (some ⟨c.B + 1 + 1, 0, none⟩) := ev_get (by rw [← hb, ev_ne (by decide), ev_ne (by decide), ev_ne (by decide), ev_ne (by decide), ev_ne (by decide)]; exact e10)
  unfold Oper.wp
  have hrun : (execOp b.eval o16_11).run Tryd.prog u = .ok .skip (u.setCell ⟨c.B + 1, 4, none⟩ (.slice (some ⟨g', 0, none⟩) (c.j + 1) cx)) := by
    simp [execOp, o16_11, g91, g85, go_sem, hx4, fx]
  rw [hrun, Oper.upon_skip]
  refine ⟨(fun h => by cases h), ?_⟩
  have hbz : (u.setCell ⟨c.B + 1, 4, none⟩ (.slice (some ⟨g', 0, none⟩) (c.j + 1) cx)).heap[c.B + 1 + 1]? = _ := (Below.heap_setCell _ _ _ _ (by show c.B + 1 + 1 ≠ c.B + 1; omega)).trans hM.bz
  have hz4' := cell_of_at hbz (i := 4) rfl
  have fz' := (box_frozen hbz).1
  have hST := Mid.stored hM
  generalize u.setCell ⟨c.B + 1, 4, none⟩ (.slice (some ⟨g', 0, none⟩) (c.j + 1) cx) = u1 at *
  have hrun2 : (execOp b.eval o16_12).run Tryd.prog u1 = .ok (.value (.pointer (some ⟨c.B + 1 + 1, 4, none⟩))) u1 := by
    simp [execOp, o16_12, g10, go_sem]
  refine Any2.one (i := 12) (by kernel_rfl) (wpOp_run (o := o16_12) (by rfl) rfl hrun2 ⟨(fun h => by cases h), ?_⟩)
  have hsb : b.tmps.size = 158 := by rw [← hb, put_size, put_size, put_size, put_size, put_size, hs]
  have g90' : (b.put (some 92) (.pointer (some ⟨c.B + 1 + 1, 4, none⟩))).tmps[90]?.getD undef = .slice (some ⟨g2, 0, none⟩) (c.j + 1) cz := ev_get (by rw [ev_ne (by decide)]; simpa [Act.eval] using g90)
  have g92' : (b.put (some 92) (.pointer (some ⟨c.B + 1 + 1, 4, none⟩))).tmps[92]?.getD undef = .pointer (some ⟨c.B + 1 + 1, 4, none⟩) := ev_get (ev_same (by rw [hsb]; decide))
  refine Any2.one (i := 13) (by kernel_rfl) (wpOp_of (o := o16_13) (by rfl) rfl ?_)
  show Oper.wp Tryd.prog o16_13 (b.put (some 92) (.pointer (some ⟨c.B + 1 + 1, 4, none⟩))) u1 _ Q
  generalize hb2 : b.put (some 92) (.pointer (some ⟨c.B + 1 + 1, 4, none⟩)) = b2 at *
  unfold Oper.wp
  have hrun3 : (execOp b2.eval o16_13).run Tryd.prog u1 = .ok .skip (u1.setCell ⟨c.B + 1 + 1, 4, none⟩ (.slice (some ⟨g2, 0, none⟩) (c.j + 1) cz)) := by
    simp [execOp, o16_13, g92', g90', go_sem, hz4', fz']
  rw [hrun3, Oper.upon_skip]
  refine ⟨(fun h => by cases h), Any2.end (by kernel_rfl) ?_⟩
  show Q .normal b2 _
  rw [← hb2, ← hb]
  exact hQ k1 k2 g' g2 cx cz _ hST
set_option maxRecDepth 100000 in
theorem steps16 (ha : c.At a) (w : World) (hM : c.mid w c.la c.lz c.j c.j c.lc c.lzc c.xs c.zs')
    (hQ : ∀ (k1 k2 g' g2 cap' cap2 : Nat) (u' : World), Lists c.wo u' c.B c.k c.m c.f c.nn c.s (c.j + 1) (some ⟨g', 0, none⟩) (some ⟨g2, 0, none⟩) cap' cap2 (c.xs ++ [c.y]) (c.zs' ++ [c.z]) →
      Q .normal ((((((a.put (some 84) (.slice (some ⟨k1, 0, none⟩) 1 1)).put (some 85) (.slice (some ⟨g', 0, none⟩) (c.j + 1) cap')).put (some 91) (.pointer (some ⟨c.B + 1, 4, none⟩))).put (some 89) (.slice (some ⟨k2, 0, none⟩) 1 1)).put (some 90) (.slice (some ⟨g2, 0, none⟩) (c.j + 1) cap2)).put (some 92) (.pointer (some ⟨c.B + 1 + 1, 4, none⟩))) u') :
    Any2 Tryd.prog .any ops16 Q c.S tail16 8 (done16 0 0) a w := by
  refine Any2.grid (f := 3) (c.I a) x16 y16 3 2 done16 (grid_of grid16) ?_ ?_ (fun b u h => tail_any ha b u h hQ) 5 0 0 a w (by decide) (by decide) rfl ⟨a, c.la, c.lz, c.j, c.j, c.lc, c.lzc, c.xs, c.zs', ⟨rfl, rfl, rfl, rfl, rfl⟩, ⟨rfl, rfl, rfl, rfl, rfl⟩, hM⟩
  · intro i j b u hi _ h
    have h3 : i = 0 ∨ i = 1 ∨ i = 2 := by omega
    rcases h3 with rfl | rfl | rfl
    · exact step_x0 ha j b u h
    · exact step_x1 ha j b u h
    · exact step_x2 ha j b u h
  · intro i j b u _ hj _ h
    have h3 : j = 0 ∨ j = 1 := by omega
    rcases h3 with rfl | rfl
    · exact step_y0 ha i b u h
    · exact step_y1 ha i b u h
def o16_0 : Oper := { dst := some 81, op := .fieldAddr 29 (.tmp 9) 4, type := 0, pos := "law.go:39", after := #[], guard := none }
def o16_1 : Oper := { dst := some 82, op := .load 26 (.tmp 81), type := 26, pos := "law.go:39", after := #[{ on := 0, ground := .data }], guard := none }
def o16_2 : Oper := { dst := some 83, op := .load 29 (.tmp 12), type := 29, pos := "law.go:39", after := #[], guard := none }
def o16_5 : Oper := { dst := some 86, op := .fieldAddr 33 (.tmp 10) 4, type := 0, pos := "law.go:39", after := #[], guard := none }
def o16_6 : Oper := { dst := some 87, op := .load 30 (.tmp 86), type := 30, pos := "law.go:39", after := #[{ on := 5, ground := .data }], guard := none }
def o16_7 : Oper := { dst := some 88, op := .load 33 (.tmp 13), type := 33, pos := "law.go:39", after := #[], guard := none }
/-- The frame behind the loads. -/
def Cx.loaded (c : Cx) (a : Act) : Act :=
  (((((a.put (some 81) (.pointer (some ⟨c.B + 1, 4, none⟩))).put (some 82) (.slice c.la c.j c.lc)).put (some 83) (.agg c.cs)).put (some 86) (.pointer (some ⟨c.B + 1 + 1, 4, none⟩))).put (some 87) (.slice c.lz c.j c.lzc)).put (some 88) (.agg c.ds)
set_option maxRecDepth 100000 in
/-- THE REGION: both lists grow by one. -/
theorem region16 (w : World) (hs : a.tmps.size = 158) (e9 : a.eval (.tmp 9) = .pointer (some ⟨c.B + 1, 0, none⟩)) (e10 : a.eval (.tmp 10) = .pointer (some ⟨c.B + 1 + 1, 0, none⟩)) (e12 : a.eval (.tmp 12) = .pointer (some ⟨c.b1, 0, none⟩)) (e13 : a.eval (.tmp 13) = .pointer (some ⟨c.b2, 0, none⟩))
    (hy : c.y.cells = c.cs.toList) (hz : c.z.cells = c.ds.toList) (hj : c.j ≤ 100) (hM : c.mid w c.la c.lz c.j c.j c.lc c.lzc c.xs c.zs') (hpan : ∀ p (d : Nat) v (b : Act) u, Q (.panic p) (b.put (some d) v) u → Q (.panic p) b u)
    (hQ : ∀ (k1 k2 g' g2 cap' cap2 : Nat) (u' : World), Lists c.wo u' c.B c.k c.m c.f c.nn c.s (c.j + 1) (some ⟨g', 0, none⟩) (some ⟨g2, 0, none⟩) cap' cap2 (c.xs ++ [c.y]) (c.zs' ++ [c.z]) →
      Q .normal (((((((c.loaded a).put (some 84) (.slice (some ⟨k1, 0, none⟩) 1 1)).put (some 85) (.slice (some ⟨g', 0, none⟩) (c.j + 1) cap')).put (some 91) (.pointer (some ⟨c.B + 1, 4, none⟩))).put (some 89) (.slice (some ⟨k2, 0, none⟩) 1 1)).put (some 90) (.slice (some ⟨g2, 0, none⟩) (c.j + 1) cap2)).put (some 92) (.pointer (some ⟨c.B + 1 + 1, 4, none⟩))) u') :
    (Code.region 16 ops16 true).wp Tryd.prog Q a w := by
  have hM' : c.mid w.drew c.la c.lz c.j c.j c.lc c.lzc c.xs c.zs' := hM.move (Fresh.refl w).drew
  have hS := Cx.mid_S hM'
  refine Any2.start (S := c.S) (tail := tail16) (by kernel_rfl) ?_
  have hsz : ops16.size = 13 + 1 := rfl
  rw [hsz]
  refine Any2.take (i := 0) (oi := o16_0) (v := .pointer (some ⟨c.B + 1, 4, none⟩)) (by rfl) (by kernel_rfl) (by kernel_rfl) (by kernel_rfl) (by rfl) (by kernel_rfl) (by kernel_rfl) (fun p b u h => hpan p _ _ b u h) hS (.inl ⟨by rfl, fun u hu => ?_⟩) ?_
  · have g := ev_get e9
    simp [execOp, o16_0, g, go_sem]
  show Any2 Tryd.prog .any ops16 Q c.S tail16 _ _ (a.put (some 81) (.pointer (some ⟨c.B + 1, 4, none⟩))) w.drew
  refine Any2.take (i := 1) (oi := o16_1) (v := .slice c.la c.j c.lc) (by rfl) (by kernel_rfl) (by kernel_rfl) (by kernel_rfl) (by rfl) (by kernel_rfl) (by kernel_rfl) (fun p b u h => hpan p _ _ b u h) hS (.inl ⟨by rfl, fun u hu => ?_⟩) ?_
  · have g := ev_get (t := 81) (a := (a.put (some 81) (.pointer (some ⟨c.B + 1, 4, none⟩)))) (ev_same (by rw [hs]; decide))
    obtain ⟨h1, h2, ⟨k0, k1, k2, k3, k4, k5⟩, n0, n1, n2, n3, n4, n5⟩ := hu
    generalize (a.put (some 81) (.pointer (some ⟨c.B + 1, 4, none⟩))) = b at *
    simp [execOp, o16_1, g, go_sem, h1]
  show Any2 Tryd.prog .any ops16 Q c.S tail16 _ _ ((a.put (some 81) (.pointer (some ⟨c.B + 1, 4, none⟩))).put (some 82) (.slice c.la c.j c.lc)) w.drew
  refine Any2.take (i := 2) (oi := o16_2) (v := .agg c.cs) (by rfl) (by kernel_rfl) (by kernel_rfl) (by kernel_rfl) (by rfl) (by kernel_rfl) (by kernel_rfl) (fun p b u h => hpan p _ _ b u h) hS (.inl ⟨by rfl, fun u hu => ?_⟩) ?_
  · have g := ev_get (t := 12) (v := .pointer (some ⟨c.b1, 0, none⟩)) (a := ((a.put (some 81) (.pointer (some ⟨c.B + 1, 4, none⟩))).put (some 82) (.slice c.la c.j c.lc))) (by rw [ev_ne (by decide), ev_ne (by decide)]; exact e12)
    obtain ⟨h1, h2, ⟨k0, k1, k2, k3, k4, k5⟩, n0, n1, n2, n3, n4, n5⟩ := hu
    generalize ((a.put (some 81) (.pointer (some ⟨c.B + 1, 4, none⟩))).put (some 82) (.slice c.la c.j c.lc)) = b at *
    simp [execOp, o16_2, g, go_sem, k0, k1, k2, k3, k4, k5, Cx.cs]
  show Any2 Tryd.prog .any ops16 Q c.S tail16 _ _ (((a.put (some 81) (.pointer (some ⟨c.B + 1, 4, none⟩))).put (some 82) (.slice c.la c.j c.lc)).put (some 83) (.agg c.cs)) w.drew
  refine Any2.take (i := 5) (oi := o16_5) (v := .pointer (some ⟨c.B + 1 + 1, 4, none⟩)) (by rfl) (by kernel_rfl) (by kernel_rfl) (by kernel_rfl) (by rfl) (by kernel_rfl) (by kernel_rfl) (fun p b u h => hpan p _ _ b u h) hS (.inl ⟨by rfl, fun u hu => ?_⟩) ?_
  · have g := ev_get (t := 10) (v := .pointer (some ⟨c.B + 1 + 1, 0, none⟩)) (a := (((a.put (some 81) (.pointer (some ⟨c.B + 1, 4, none⟩))).put (some 82) (.slice c.la c.j c.lc)).put (some 83) (.agg c.cs))) (by rw [ev_ne (by decide), ev_ne (by decide), ev_ne (by decide)]; exact e10)
    generalize (((a.put (some 81) (.pointer (some ⟨c.B + 1, 4, none⟩))).put (some 82) (.slice c.la c.j c.lc)).put (some 83) (.agg c.cs)) = b at *
    simp [execOp, o16_5, g, go_sem]
  show Any2 Tryd.prog .any ops16 Q c.S tail16 _ _ ((((a.put (some 81) (.pointer (some ⟨c.B + 1, 4, none⟩))).put (some 82) (.slice c.la c.j c.lc)).put (some 83) (.agg c.cs)).put (some 86) (.pointer (some ⟨c.B + 1 + 1, 4, none⟩))) w.drew
  refine Any2.take (i := 6) (oi := o16_6) (v := .slice c.lz c.j c.lzc) (by rfl) (by kernel_rfl) (by kernel_rfl) (by kernel_rfl) (by rfl) (by kernel_rfl) (by kernel_rfl) (fun p b u h => hpan p _ _ b u h) hS (.inl ⟨by rfl, fun u hu => ?_⟩) ?_
  · have g := ev_get (t := 86) (a := ((((a.put (some 81) (.pointer (some ⟨c.B + 1, 4, none⟩))).put (some 82) (.slice c.la c.j c.lc)).put (some 83) (.agg c.cs)).put (some 86) (.pointer (some ⟨c.B + 1 + 1, 4, none⟩)))) (ev_same (by rw [put_size, put_size, put_size, hs]; decide))
    obtain ⟨h1, h2, ⟨k0, k1, k2, k3, k4, k5⟩, n0, n1, n2, n3, n4, n5⟩ := hu
    generalize ((((a.put (some 81) (.pointer (some ⟨c.B + 1, 4, none⟩))).put (some 82) (.slice c.la c.j c.lc)).put (some 83) (.agg c.cs)).put (some 86) (.pointer (some ⟨c.B + 1 + 1, 4, none⟩))) = b at *
    simp [execOp, o16_6, g, go_sem, h2]
  show Any2 Tryd.prog .any ops16 Q c.S tail16 _ _ (((((a.put (some 81) (.pointer (some ⟨c.B + 1, 4, none⟩))).put (some 82) (.slice c.la c.j c.lc)).put (some 83) (.agg c.cs)).put (some 86) (.pointer (some ⟨c.B + 1 + 1, 4, none⟩))).put (some 87) (.slice c.lz c.j c.lzc)) w.drew
  refine Any2.take (i := 7) (oi := o16_7) (v := .agg c.ds) (by rfl) (by kernel_rfl) (by kernel_rfl) (by kernel_rfl) (by rfl) (by kernel_rfl) (by kernel_rfl) (fun p b u h => hpan p _ _ b u h) hS (.inl ⟨by rfl, fun u hu => ?_⟩) ?_
  · have g := ev_get (t := 13) (v := .pointer (some ⟨c.b2, 0, none⟩)) (a := (((((a.put (some 81) (.pointer (some ⟨c.B + 1, 4, none⟩))).put (some 82) (.slice c.la c.j c.lc)).put (some 83) (.agg c.cs)).put (some 86) (.pointer (some ⟨c.B + 1 + 1, 4, none⟩))).put (some 87) (.slice c.lz c.j c.lzc))) (by rw [ev_ne (by decide), ev_ne (by decide), ev_ne (by decide), ev_ne (by decide), ev_ne (by decide)]; exact e13)
    obtain ⟨h1, h2, ⟨k0, k1, k2, k3, k4, k5⟩, n0, n1, n2, n3, n4, n5⟩ := hu
    generalize (((((a.put (some 81) (.pointer (some ⟨c.B + 1, 4, none⟩))).put (some 82) (.slice c.la c.j c.lc)).put (some 83) (.agg c.cs)).put (some 86) (.pointer (some ⟨c.B + 1 + 1, 4, none⟩))).put (some 87) (.slice c.lz c.j c.lzc)) = b at *
    simp [execOp, o16_7, g, go_sem, n0, n1, n2, n3, n4, n5, Cx.ds]
  show Any2 Tryd.prog .any ops16 Q c.S tail16 _ _ ((((((a.put (some 81) (.pointer (some ⟨c.B + 1, 4, none⟩))).put (some 82) (.slice c.la c.j c.lc)).put (some 83) (.agg c.cs)).put (some 86) (.pointer (some ⟨c.B + 1 + 1, 4, none⟩))).put (some 87) (.slice c.lz c.j c.lzc)).put (some 88) (.agg c.ds)) w.drew
  have hL : Cx.At c (c.loaded a) := by
    refine ⟨?_, ?_, ?_, ?_, ?_, ?_, ?_, hy, hz, hj⟩
    · simp only [Cx.loaded, put_size, hs]
    · rw [Cx.loaded, ev_ne (by decide), ev_ne (by decide), ev_ne (by decide), ev_ne (by decide), ev_ne (by decide), ev_ne (by decide)]; exact e9
    · rw [Cx.loaded, ev_ne (by decide), ev_ne (by decide), ev_ne (by decide), ev_ne (by decide), ev_ne (by decide), ev_ne (by decide)]; exact e10
    · rw [Cx.loaded, ev_ne (by decide), ev_ne (by decide), ev_ne (by decide), ev_ne (by decide)]; exact ev_same (by rw [put_size, hs]; decide)
    · rw [Cx.loaded, ev_ne (by decide), ev_ne (by decide), ev_ne (by decide)]; exact ev_same (by rw [put_size, put_size, hs]; decide)
    · rw [Cx.loaded, ev_ne (by decide)]; exact ev_same (by rw [put_size, put_size, put_size, put_size, hs]; decide)
    · rw [Cx.loaded]; exact ev_same (by rw [put_size, put_size, put_size, put_size, put_size, hs]; decide)
  exact (congrArg (fun D => Any2 Tryd.prog .any ops16 Q c.S tail16 8 D (c.loaded a) w.drew) (show _ = done16 0 0 by kernel_rfl)).mpr (steps16 hL w.drew hM' hQ)
end Go.Proofs.YtonakfkiidhebaaDoor
