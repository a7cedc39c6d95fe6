/-
  The statements' own Build: keys, a round's last statement (both grow by one).
-/
import Derived.Test.YtonakfkiidhebaaDoorReg19
import Derived.Test.YtonakfkiidhebaaDoorSmall
namespace Go.Proofs.YtonakfkiidhebaaDoor
open Go.ChangeShapes Go.WideShapes Go.ChangeAt Go.RowKit
attribute [local go_sem ↓] Go.wp_at_zero Go.wp_at_succ

def ops17 : Array Oper := #[{ dst := some 93, op := .fieldAddr 29 (.tmp 9) 5, type := 0, pos := "law.go:41", after := #[], guard := none }, { dst := some 94, op := .load 27 (.tmp 93), type := 27, pos := "law.go:41", after := #[{ on := 0, ground := .data }], guard := none }, { dst := some 95, op := .load 60 (.tmp 7), type := 60, pos := "law.go:41", after := #[], guard := none }, { dst := some 96, op := .move (.tmp 11), type := 3, pos := "law.go:41", after := #[], guard := none }, { dst := some 97, op := .call { callee := .value (.func 23), args := #[.tmp 95, .tmp 96], argTypes := #[60, 3] }, type := 9, pos := "law.go:41", after := #[{ on := 2, ground := .data }, { on := 3, ground := .data }], guard := none }, { dst := some 98, op := .load 29 (.tmp 12), type := 29, pos := "law.go:41", after := #[], guard := none }, { dst := some 99, op := .build 54 #[(0, .tmp 97), (1, .tmp 98)], type := 54, pos := "law.go:41", after := #[{ on := 4, ground := .data }, { on := 5, ground := .data }], guard := none }, { dst := some 100, op := .buildSlice 27 1 #[(0, .tmp 99)], type := 27, pos := "law.go:41", after := #[{ on := 6, ground := .data }], guard := none }, { dst := some 101, op := .call { callee := .builtin .append, args := #[.tmp 94, .tmp 100], argTypes := #[27, 27] }, type := 27, pos := "law.go:41", after := #[{ on := 1, ground := .data }, { on := 7, ground := .data }, { on := 4, ground := .chain }], guard := none }, { dst := some 102, op := .fieldAddr 33 (.tmp 10) 5, type := 0, pos := "law.go:41", after := #[], guard := none }, { dst := some 103, op := .load 31 (.tmp 102), type := 31, pos := "law.go:41", after := #[{ on := 9, ground := .data }], guard := none }, { dst := some 104, op := .load 60 (.tmp 7), type := 60, pos := "law.go:41", after := #[], guard := none }, { dst := some 105, op := .move (.tmp 11), type := 3, pos := "law.go:41", after := #[], guard := none }, { dst := some 106, op := .call { callee := .value (.func 23), args := #[.tmp 104, .tmp 105], argTypes := #[60, 3] }, type := 9, pos := "law.go:41", after := #[{ on := 11, ground := .data }, { on := 12, ground := .data }, { on := 8, ground := .chain }], guard := none }, { dst := some 107, op := .load 33 (.tmp 13), type := 33, pos := "law.go:41", after := #[], guard := none }, { dst := some 108, op := .build 56 #[(0, .tmp 106), (1, .tmp 107)], type := 56, pos := "law.go:41", after := #[{ on := 13, ground := .data }, { on := 14, ground := .data }], guard := none }, { dst := some 109, op := .buildSlice 31 1 #[(0, .tmp 108)], type := 31, pos := "law.go:41", after := #[{ on := 15, ground := .data }], guard := none }, { dst := some 110, op := .call { callee := .builtin .append, args := #[.tmp 103, .tmp 109], argTypes := #[31, 31] }, type := 31, pos := "law.go:41", after := #[{ on := 10, ground := .data }, { on := 16, ground := .data }, { on := 13, ground := .chain }], guard := none }, { dst := some 111, op := .fieldAddr 29 (.tmp 9) 5, type := 0, pos := "law.go:41", after := #[{ on := 0, ground := .phase }, { on := 1, ground := .phase }, { on := 2, ground := .phase }, { on := 3, ground := .phase }, { on := 4, ground := .phase }, { on := 5, ground := .phase }, { on := 6, ground := .phase }, { on := 7, ground := .phase }, { on := 8, ground := .phase }, { on := 9, ground := .textOnly .lateStores }, { on := 10, ground := .textOnly .lateStores }, { on := 11, ground := .textOnly .lateStores }, { on := 12, ground := .textOnly .lateStores }, { on := 13, ground := .textOnly .lateStoresUnsure }, { on := 14, ground := .textOnly .lateStores }, { on := 15, ground := .textOnly .lateStores }, { on := 16, ground := .textOnly .lateStores }, { on := 17, ground := .textOnly .lateStoresUnsure }], guard := none }, { dst := none, op := .store 27 (.tmp 111) (.tmp 101), type := 0, pos := "law.go:41", after := #[{ on := 18, ground := .data }, { on := 8, ground := .data }, { on := 17, ground := .chain }, { on := 0, ground := .phase }, { on := 1, ground := .phase }, { on := 2, ground := .phase }, { on := 3, ground := .phase }, { on := 4, ground := .phase }, { on := 5, ground := .phase }, { on := 6, ground := .phase }, { on := 7, ground := .phase }, { on := 8, ground := .phase }, { on := 9, ground := .textOnly .lateStores }, { on := 10, ground := .textOnly .lateStores }, { on := 11, ground := .textOnly .lateStores }, { on := 12, ground := .textOnly .lateStores }, { on := 13, ground := .textOnly .lateStoresUnsure }, { on := 14, ground := .textOnly .lateStores }, { on := 15, ground := .textOnly .lateStores }, { on := 16, ground := .textOnly .lateStores }, { on := 17, ground := .textOnly .lateStoresUnsure }], guard := none }, { dst := some 112, op := .fieldAddr 33 (.tmp 10) 5, type := 0, pos := "law.go:41", after := #[{ on := 0, ground := .phase }, { on := 1, ground := .phase }, { on := 2, ground := .phase }, { on := 3, ground := .phase }, { on := 4, ground := .phase }, { on := 5, ground := .phase }, { on := 6, ground := .phase }, { on := 7, ground := .phase }, { on := 8, ground := .phase }, { on := 9, ground := .phase }, { on := 10, ground := .phase }, { on := 11, ground := .phase }, { on := 12, ground := .phase }, { on := 13, ground := .phase }, { on := 14, ground := .phase }, { on := 15, ground := .phase }, { on := 16, ground := .phase }, { on := 17, ground := .phase }, { on := 18, ground := .phase }, { on := 19, ground := .phase }], guard := none }, { dst := none, op := .store 31 (.tmp 112) (.tmp 110), type := 0, pos := "law.go:41", after := #[{ on := 20, ground := .data }, { on := 17, ground := .data }, { on := 19, ground := .chain }, { on := 0, ground := .phase }, { on := 1, ground := .phase }, { on := 2, ground := .phase }, { on := 3, ground := .phase }, { on := 4, ground := .phase }, { on := 5, ground := .phase }, { on := 6, ground := .phase }, { on := 7, ground := .phase }, { on := 8, ground := .phase }, { on := 9, ground := .phase }, { on := 10, ground := .phase }, { on := 11, ground := .phase }, { on := 12, ground := .phase }, { on := 13, ground := .phase }, { on := 14, ground := .phase }, { on := 15, ground := .phase }, { on := 16, ground := .phase }, { on := 17, ground := .phase }, { on := 18, ground := .phase }, { on := 19, ground := .phase }], guard := none }]
def o17_0 : Oper := { dst := some 93, op := .fieldAddr 29 (.tmp 9) 5, type := 0, pos := "law.go:41", after := #[], guard := none }
def o17_1 : Oper := { dst := some 94, op := .load 27 (.tmp 93), type := 27, pos := "law.go:41", after := #[{ on := 0, ground := .data }], guard := none }
def o17_2 : Oper := { dst := some 95, op := .load 60 (.tmp 7), type := 60, pos := "law.go:41", after := #[], guard := none }
def o17_3 : Oper := { dst := some 96, op := .move (.tmp 11), type := 3, pos := "law.go:41", after := #[], guard := none }
def o17_4 : Oper := { dst := some 97, op := .call { callee := .value (.func 23), args := #[.tmp 95, .tmp 96], argTypes := #[60, 3] }, type := 9, pos := "law.go:41", after := #[{ on := 2, ground := .data }, { on := 3, ground := .data }], guard := none }
def o17_5 : Oper := { dst := some 98, op := .load 29 (.tmp 12), type := 29, pos := "law.go:41", after := #[], guard := none }
def o17_6 : Oper := { dst := some 99, op := .build 54 #[(0, .tmp 97), (1, .tmp 98)], type := 54, pos := "law.go:41", after := #[{ on := 4, ground := .data }, { on := 5, ground := .data }], guard := none }
def o17_7 : Oper := { dst := some 100, op := .buildSlice 27 1 #[(0, .tmp 99)], type := 27, pos := "law.go:41", after := #[{ on := 6, ground := .data }], guard := none }
def o17_8 : Oper := { dst := some 101, op := .call { callee := .builtin .append, args := #[.tmp 94, .tmp 100], argTypes := #[27, 27] }, type := 27, pos := "law.go:41", after := #[{ on := 1, ground := .data }, { on := 7, ground := .data }, { on := 4, ground := .chain }], guard := none }
def o17_9 : Oper := { dst := some 102, op := .fieldAddr 33 (.tmp 10) 5, type := 0, pos := "law.go:41", after := #[], guard := none }
def o17_10 : Oper := { dst := some 103, op := .load 31 (.tmp 102), type := 31, pos := "law.go:41", after := #[{ on := 9, ground := .data }], guard := none }
def o17_11 : Oper := { dst := some 104, op := .load 60 (.tmp 7), type := 60, pos := "law.go:41", after := #[], guard := none }
def o17_12 : Oper := { dst := some 105, op := .move (.tmp 11), type := 3, pos := "law.go:41", after := #[], guard := none }
def o17_13 : Oper := { dst := some 106, op := .call { callee := .value (.func 23), args := #[.tmp 104, .tmp 105], argTypes := #[60, 3] }, type := 9, pos := "law.go:41", after := #[{ on := 11, ground := .data }, { on := 12, ground := .data }, { on := 8, ground := .chain }], guard := none }
def o17_14 : Oper := { dst := some 107, op := .load 33 (.tmp 13), type := 33, pos := "law.go:41", after := #[], guard := none }
def o17_15 : Oper := { dst := some 108, op := .build 56 #[(0, .tmp 106), (1, .tmp 107)], type := 56, pos := "law.go:41", after := #[{ on := 13, ground := .data }, { on := 14, ground := .data }], guard := none }
def o17_16 : Oper := { dst := some 109, op := .buildSlice 31 1 #[(0, .tmp 108)], type := 31, pos := "law.go:41", after := #[{ on := 15, ground := .data }], guard := none }
def o17_17 : Oper := { dst := some 110, op := .call { callee := .builtin .append, args := #[.tmp 103, .tmp 109], argTypes := #[31, 31] }, type := 31, pos := "law.go:41", after := #[{ on := 10, ground := .data }, { on := 16, ground := .data }, { on := 13, ground := .chain }], guard := none }
def o17_18 : Oper := { dst := some 111, op := .fieldAddr 29 (.tmp 9) 5, type := 0, pos := "law.go:41", after := #[{ on := 0, ground := .phase }, { on := 1, ground := .phase }, { on := 2, ground := .phase }, { on := 3, ground := .phase }, { on := 4, ground := .phase }, { on := 5, ground := .phase }, { on := 6, ground := .phase }, { on := 7, ground := .phase }, { on := 8, ground := .phase }, { on := 9, ground := .textOnly .lateStores }, { on := 10, ground := .textOnly .lateStores }, { on := 11, ground := .textOnly .lateStores }, { on := 12, ground := .textOnly .lateStores }, { on := 13, ground := .textOnly .lateStoresUnsure }, { on := 14, ground := .textOnly .lateStores }, { on := 15, ground := .textOnly .lateStores }, { on := 16, ground := .textOnly .lateStores }, { on := 17, ground := .textOnly .lateStoresUnsure }], guard := none }
def o17_19 : Oper := { dst := none, op := .store 27 (.tmp 111) (.tmp 101), type := 0, pos := "law.go:41", after := #[{ on := 18, ground := .data }, { on := 8, ground := .data }, { on := 17, ground := .chain }, { on := 0, ground := .phase }, { on := 1, ground := .phase }, { on := 2, ground := .phase }, { on := 3, ground := .phase }, { on := 4, ground := .phase }, { on := 5, ground := .phase }, { on := 6, ground := .phase }, { on := 7, ground := .phase }, { on := 8, ground := .phase }, { on := 9, ground := .textOnly .lateStores }, { on := 10, ground := .textOnly .lateStores }, { on := 11, ground := .textOnly .lateStores }, { on := 12, ground := .textOnly .lateStores }, { on := 13, ground := .textOnly .lateStoresUnsure }, { on := 14, ground := .textOnly .lateStores }, { on := 15, ground := .textOnly .lateStores }, { on := 16, ground := .textOnly .lateStores }, { on := 17, ground := .textOnly .lateStoresUnsure }], guard := none }
def o17_20 : Oper := { dst := some 112, op := .fieldAddr 33 (.tmp 10) 5, type := 0, pos := "law.go:41", after := #[{ on := 0, ground := .phase }, { on := 1, ground := .phase }, { on := 2, ground := .phase }, { on := 3, ground := .phase }, { on := 4, ground := .phase }, { on := 5, ground := .phase }, { on := 6, ground := .phase }, { on := 7, ground := .phase }, { on := 8, ground := .phase }, { on := 9, ground := .phase }, { on := 10, ground := .phase }, { on := 11, ground := .phase }, { on := 12, ground := .phase }, { on := 13, ground := .phase }, { on := 14, ground := .phase }, { on := 15, ground := .phase }, { on := 16, ground := .phase }, { on := 17, ground := .phase }, { on := 18, ground := .phase }, { on := 19, ground := .phase }], guard := none }
def o17_21 : Oper := { dst := none, op := .store 31 (.tmp 112) (.tmp 110), type := 0, pos := "law.go:41", after := #[{ on := 20, ground := .data }, { on := 17, ground := .data }, { on := 19, ground := .chain }, { on := 0, ground := .phase }, { on := 1, ground := .phase }, { on := 2, ground := .phase }, { on := 3, ground := .phase }, { on := 4, ground := .phase }, { on := 5, ground := .phase }, { on := 6, ground := .phase }, { on := 7, ground := .phase }, { on := 8, ground := .phase }, { on := 9, ground := .phase }, { on := 10, ground := .phase }, { on := 11, ground := .phase }, { on := 12, ground := .phase }, { on := 13, ground := .phase }, { on := 14, ground := .phase }, { on := 15, ground := .phase }, { on := 16, ground := .phase }, { on := 17, ground := .phase }, { on := 18, ground := .phase }, { on := 19, ground := .phase }], guard := none }
def tail17 (k : Nat) : Bool := k == 19 || k == 20 || k == 21
theorem wpOp_call {P : Program} {Q : Exit → Act → World → Prop} {ops : Array Oper} {i : Nat} {o : Oper} {K : Act → World → Prop} {b : Act} {w : World} {f : FuncId} {args : Array Value} {v : Value} (hi : ops[i]? = some o) (hg : o.guard = none) (hr : (execOp b.eval o).run P w = .ok (.enter f args) w)
    {R : World → Prop} (hc : Calls P f args w fun e w' => e = .returned v ∧ R w') (h : ∀ w', R w' → K (b.put o.dst v) w') : wpOp P ops Q i K b w := by
  refine wpOp_of hi hg ?_
  unfold Oper.wp
  rw [hr, Oper.upon_enter]
  refine hc.mono ?_
  rintro e w' ⟨rfl, hw⟩
  exact h w' hw
theorem info54 : (Tryd.prog.info? 54).map (fun i => (i.zero.map (fun z => z.cells.size), i.size, i.bytes)) = some (some 7, 7, 104) := by kernel_rfl
theorem info56 : (Tryd.prog.info? 56).map (fun i => (i.zero.map (fun z => z.cells.size), i.size, i.bytes)) = some (some 7, 7, 104) := by kernel_rfl
theorem info_seven {T : TypeId} (h : (Tryd.prog.info? T).map (fun i => (i.zero.map (fun z => z.cells.size), i.size, i.bytes)) = some (some 7, 7, 104)) : ∃ (i : TypeInfo) (z : Value), Tryd.prog.info? T = some i ∧ i.zero = some z ∧ z.cells.size = 7 ∧ i.size = 7 ∧ i.bytes = 104 := by
  obtain ⟨i, hi, hz⟩ := Option.map_eq_some_iff.1 h
  simp only [Prod.mk.injEq] at hz
  obtain ⟨h1, h2, h3⟩ := hz
  obtain ⟨z, hz1, hz2⟩ := Option.map_eq_some_iff.1 h1
  exact ⟨i, z, hi, hz1, hz2, h2, h3⟩
/-- Keys that are being built, and their twins: the boxes, and the rows. -/
structure KeysL (wo wq : World) (B : Nat) (k m : Int) (f : Bool) (nn : Int) (s : ByteArray) (j : Nat) (la lz : Option Addr) (lc lzc : Nat) (xs ys : List (ByteArray × M)) : Prop where
  hB : wo.heap.size = B
  bp : wq.heap[B]? = some (.cells #[.int .i64 k, .int .i64 m, .bool f, .int .i64 nn, .string s] 60 (0, 0))
  bx : wq.heap[B + 1]? = some (.cells #[.int .i64 k, .bool f, .int .i64 nn, .string s, .slice none 0 0, .slice la j lc] 29 (0, 0))
  bz : wq.heap[B + 1 + 1]? = some (.cells #[.int .i64 k, .bool f, .int .i64 nn, .string s, .slice none 0 0, .slice lz j lzc] 33 (0, 0))
  rx : wq.ownsRow (B + 3) 54 7 (.slice la j lc) j (pcells xs)
  rz : wq.ownsRow (B + 3) 56 7 (.slice lz j lzc) j (pcells ys)
  fresh : Fresh wo wq
theorem KeysL.move {wo wr wq : World} {B : Nat} {k m : Int} {f : Bool} {nn : Int} {s : ByteArray} {j : Nat} {la lz : Option Addr} {lc lzc : Nat} {xs ys : List (ByteArray × M)} (h : KeysL wo wr B k m f nn s j la lz lc lzc xs ys) (g : Fresh wr wq) : KeysL wo wq B k m f nn s j la lz lc lzc xs ys :=
  ⟨h.hB, g.at h.bp, g.at h.bx, g.at h.bz, owns_move h.rx g, owns_move h.rz g, h.fresh.trans g⟩
/-- What stands still. -/
structure Kx where
  wo : World
  B : Nat
  k : Int
  m : Int
  f : Bool
  nn : Int
  s : ByteArray
  b1 : Nat
  b2 : Nat
  yk : Int
  yf : Bool
  yn : Int
  ys : ByteArray
  yla : Option Addr
  yln : Nat
  ylc : Nat
  yka : Option Addr
  ykn : Nat
  ykc : Nat
  zk : Int
  zf : Bool
  zn : Int
  zs : ByteArray
  zla : Option Addr
  zln : Nat
  zlc : Nat
  zka : Option Addr
  zkn : Nat
  zkc : Nat
  y : M
  z : M
  la : Option Addr
  lz : Option Addr
  j : Nat
  lc : Nat
  lzc : Nat
  xs : List (ByteArray × M)
  zs' : List (ByteArray × M)
def Kx.cs (c : Kx) : Array Value := #[.int .i64 c.yk, .bool c.yf, .int .i64 c.yn, .string c.ys, .slice c.yla c.yln c.ylc, .slice c.yka c.ykn c.ykc]
def Kx.ds (c : Kx) : Array Value := #[.int .i64 c.zk, .bool c.zf, .int .i64 c.zn, .string c.zs, .slice c.zla c.zln c.zlc, .slice c.zka c.zkn c.zkc]
def Kx.pv (c : Kx) : Array Value := #[.int .i64 c.k, .int .i64 c.m, .bool c.f, .int .i64 c.nn, .string c.s]
def Kx.key (c : Kx) : ByteArray := keyName ⟨c.k, c.m, c.f, c.nn, c.s⟩ c.j
def Kx.cs7 (c : Kx) : Array Value := #[.string c.key, .int .i64 c.yk, .bool c.yf, .int .i64 c.yn, .string c.ys, .slice c.yla c.yln c.ylc, .slice c.yka c.ykn c.ykc]
def Kx.ds7 (c : Kx) : Array Value := #[.string c.key, .int .i64 c.zk, .bool c.zf, .int .i64 c.zn, .string c.zs, .slice c.zla c.zln c.zlc, .slice c.zka c.zkn c.zkc]
/-- In the midst of the region. -/
structure Kx.Mid (c : Kx) (u : World) (ax az : Option Addr) (jx jz cx cz : Nat) (xs ys : List (ByteArray × M)) : Prop where
  hB : c.wo.heap.size = c.B
  bp : u.heap[c.B]? = some (.cells c.pv 60 (0, 0))
  bx : u.heap[c.B + 1]? = some (.cells #[.int .i64 c.k, .bool c.f, .int .i64 c.nn, .string c.s, .slice none 0 0, .slice c.la c.j c.lc] 29 (0, 0))
  bz : u.heap[c.B + 1 + 1]? = some (.cells #[.int .i64 c.k, .bool c.f, .int .i64 c.nn, .string c.s, .slice none 0 0, .slice c.lz c.j c.lzc] 33 (0, 0))
  h1 : u.heap[c.b1]? = some (.cells c.cs 29 (0, 0))
  h2 : u.heap[c.b2]? = some (.cells c.ds 33 (0, 0))
  rx : u.ownsRow (c.B + 3) 54 7 (.slice ax jx cx) jx (pcells xs)
  rz : u.ownsRow (c.B + 3) 56 7 (.slice az jz cz) jz (pcells ys)
  fresh : Fresh c.wo u
theorem Kx.Mid.move {c : Kx} {u u' : World} {ax az : Option Addr} {jx jz cx cz : Nat} {xs ys : List (ByteArray × M)} (h : c.Mid u ax az jx jz cx cz xs ys) (g : Fresh u u') : c.Mid u' ax az jx jz cx cz xs ys :=
  ⟨h.hB, g.at h.bp, g.at h.bx, g.at h.bz, g.at h.h1, g.at h.h2, owns_move h.rx g, owns_move h.rz g, h.fresh.trans g⟩
def Kx.S (c : Kx) (u : World) : Prop :=
  u.cell? ⟨c.B + 1, 5, none⟩ = some (.slice c.la c.j c.lc) ∧ u.cell? ⟨c.B + 1 + 1, 5, none⟩ = some (.slice c.lz c.j c.lzc) ∧
  (u.cell? ⟨c.B, 0, none⟩ = some (.int .i64 c.k) ∧ u.cell? ⟨c.B, 1, none⟩ = some (.int .i64 c.m) ∧ u.cell? ⟨c.B, 2, none⟩ = some (.bool c.f) ∧ u.cell? ⟨c.B, 3, none⟩ = some (.int .i64 c.nn) ∧ u.cell? ⟨c.B, 4, none⟩ = some (.string c.s)) ∧
  (u.cell? ⟨c.b1, 0, none⟩ = some (.int .i64 c.yk) ∧ u.cell? ⟨c.b1, 1, none⟩ = some (.bool c.yf) ∧ u.cell? ⟨c.b1, 2, none⟩ = some (.int .i64 c.yn) ∧ u.cell? ⟨c.b1, 3, none⟩ = some (.string c.ys) ∧ u.cell? ⟨c.b1, 4, none⟩ = some (.slice c.yla c.yln c.ylc) ∧ u.cell? ⟨c.b1, 5, none⟩ = some (.slice c.yka c.ykn c.ykc)) ∧
  (u.cell? ⟨c.b2, 0, none⟩ = some (.int .i64 c.zk) ∧ u.cell? ⟨c.b2, 1, none⟩ = some (.bool c.zf) ∧ u.cell? ⟨c.b2, 2, none⟩ = some (.int .i64 c.zn) ∧ u.cell? ⟨c.b2, 3, none⟩ = some (.string c.zs) ∧ u.cell? ⟨c.b2, 4, none⟩ = some (.slice c.zla c.zln c.zlc) ∧ u.cell? ⟨c.b2, 5, none⟩ = some (.slice c.zka c.zkn c.zkc))
theorem Kx.Mid.S {c : Kx} {u : World} {ax az : Option Addr} {jx jz cx cz : Nat} {xs ys : List (ByteArray × M)} (h : c.Mid u ax az jx jz cx cz xs ys) : c.S u :=
  ⟨cell_of_at h.bx rfl, cell_of_at h.bz rfl, ⟨cell_of_at h.bp rfl, cell_of_at h.bp rfl, cell_of_at h.bp rfl, cell_of_at h.bp rfl, cell_of_at h.bp rfl⟩, ⟨cell_of_at h.h1 rfl, cell_of_at h.h1 rfl, cell_of_at h.h1 rfl, cell_of_at h.h1 rfl, cell_of_at h.h1 rfl, cell_of_at h.h1 rfl⟩, ⟨cell_of_at h.h2 rfl, cell_of_at h.h2 rfl, cell_of_at h.h2 rfl, cell_of_at h.h2 rfl, cell_of_at h.h2 rfl, cell_of_at h.h2 rfl⟩⟩
/-- A block of another type stands behind an append. -/
theorem kept_other {w w' : World} {B : Nat} {t t' : TypeId} {k n m c b : Nat} {a : Option Addr} {xs : List Value} {cs : Array Value} (h : w.ownsRow B t k (.slice a m c) n xs) (hg : w.grownBy w' (Value.slice a m c).ownBlock) (hb : w.heap[b]? = some (.cells cs t' (0, 0))) (ht : t ≠ t') : w'.heap[b]? = some (.cells cs t' (0, 0)) :=
  grown_at hg hb (fun ad e => by obtain ⟨_, _, cur, h3⟩ := own_type h ad e; exact type_ne h3 hb ht)
theorem kept_rows {w w' : World} {B B' : Nat} {t t' : TypeId} {k k' n n' m m' c c' : Nat} {a a' : Option Addr} {xs ys : List Value} (h : w.ownsRow B t k (.slice a m c) n xs) (hg : w.grownBy w' (Value.slice a m c).ownBlock) (h' : w.ownsRow B' t' k' (.slice a' m' c') n' ys) (ht : t ≠ t') : w'.ownsRow B' t' k' (.slice a' m' c') n' ys :=
  kept_row h' hg (fun ad e e2 => by
    obtain ⟨ad', e1, e3⟩ := own_block e2.symm
    exact own_parted h h' ht ad' ad e1 e e3)
theorem Kx.Mid.pushx {c : Kx} {u u' : World} {ax az : Option Addr} {jx jz cx cz : Nat} {xs ys : List (ByteArray × M)} (h : c.Mid u ax az jx jz cx cz xs ys) {p : ByteArray × M} {g cap : Nat}
    (ho : u'.ownsRow (c.B + 3) 54 7 (.slice (some ⟨g, 0, none⟩) (jx + 1) cap) (jx + 1) (pcells xs ++ pcellsOf p)) (hg : u.grownBy u' (Value.slice ax jx cx).ownBlock) : c.Mid u' (some ⟨g, 0, none⟩) az (jx + 1) jz cap cz (xs ++ [p]) ys :=
  ⟨h.hB, kept_other h.rx hg h.bp (by decide), kept_other h.rx hg h.bx (by decide), kept_other h.rx hg h.bz (by decide), kept_other h.rx hg h.h1 (by decide), kept_other h.rx hg h.h2 (by decide), by rw [pcells_snoc]; exact ho, kept_rows h.rx hg h.rz (by decide), h.fresh.grown hg (fun k e => by
    obtain ⟨ad, e1, e3⟩ := own_block e
    have := (own_type h.rx ad e1).1
    rw [h.hB]; omega)⟩
theorem Kx.Mid.pushz {c : Kx} {u u' : World} {ax az : Option Addr} {jx jz cx cz : Nat} {xs ys : List (ByteArray × M)} (h : c.Mid u ax az jx jz cx cz xs ys) {p : ByteArray × M} {g cap : Nat}
    (ho : u'.ownsRow (c.B + 3) 56 7 (.slice (some ⟨g, 0, none⟩) (jz + 1) cap) (jz + 1) (pcells ys ++ pcellsOf p)) (hg : u.grownBy u' (Value.slice az jz cz).ownBlock) : c.Mid u' ax (some ⟨g, 0, none⟩) jx (jz + 1) cx cap xs (ys ++ [p]) :=
  ⟨h.hB, kept_other h.rz hg h.bp (by decide), kept_other h.rz hg h.bx (by decide), kept_other h.rz hg h.bz (by decide), kept_other h.rz hg h.h1 (by decide), kept_other h.rz hg h.h2 (by decide), kept_rows h.rz hg h.rx (by decide), by rw [pcells_snoc]; exact ho, h.fresh.grown hg (fun k e => by
    obtain ⟨ad, e1, e3⟩ := own_block e
    have := (own_type h.rz ad e1).1
    rw [h.hB]; omega)⟩
theorem Kx.Mid.stored {c : Kx} {u : World} {ax az : Option Addr} {j cx cz : Nat} {xs ys : List (ByteArray × M)} (h : c.Mid u ax az j j cx cz xs ys) :
    KeysL c.wo ((u.setCell ⟨c.B + 1, 5, none⟩ (.slice ax j cx)).setCell ⟨c.B + 1 + 1, 5, none⟩ (.slice az j cz)) c.B c.k c.m c.f c.nn c.s j ax az cx cz xs ys := by
  have g1 := grown_set u (c.B + 1) 5 (.slice ax j cx)
  have g2 := grown_set (u.setCell ⟨c.B + 1, 5, none⟩ (.slice ax j cx)) (c.B + 1 + 1) 5 (.slice az j cz)
  have nb : ∀ (ad : Addr) (k : Nat), c.B + 3 ≤ ad.block → k < c.B + 3 → some ad.block ≠ some k := fun ad k h1 h2 e => by injection e with e; omega
  refine ⟨h.hB, ?_, ?_, ?_, ?_, ?_, ?_⟩
  · rw [Below.heap_setCell _ _ _ _ (by show c.B ≠ c.B + 1 + 1; omega), Below.heap_setCell _ _ _ _ (by show c.B ≠ c.B + 1; omega)]; exact h.bp
  · rw [Below.heap_setCell _ _ _ _ (by show c.B + 1 ≠ c.B + 1 + 1; omega)]
    simp [World.setCell, Array.getElem?_modify, h.bx]
  · have := h.bz
    simp [World.setCell, Array.getElem?_modify, this]
  · exact kept_row (kept_row h.rx g1 (fun ad e => nb ad _ (own_type h.rx ad e).1 (by omega))) g2 (fun ad e => nb ad _ (own_type h.rx ad e).1 (by omega))
  · exact kept_row (kept_row h.rz g1 (fun ad e => nb ad _ (own_type h.rz ad e).1 (by omega))) g2 (fun ad e => nb ad _ (own_type h.rz ad e).1 (by omega))
  · exact (h.fresh.setCell (by rw [h.hB]; show c.B ≤ c.B + 1; omega) _).setCell (by rw [h.hB]; show c.B ≤ c.B + 1 + 1; omega) _
/-- What the region finds in its slots, behind its loads. -/
structure Kx.At (c : Kx) (a : Act) : Prop where
  size : a.tmps.size = 158
  e9 : a.eval (.tmp 9) = .pointer (some ⟨c.B + 1, 0, none⟩)
  e10 : a.eval (.tmp 10) = .pointer (some ⟨c.B + 1 + 1, 0, none⟩)
  e94 : a.eval (.tmp 94) = .slice c.la c.j c.lc
  e95 : a.eval (.tmp 95) = .agg c.pv
  e96 : a.eval (.tmp 96) = .int .i64 (c.j : Int)
  e98 : a.eval (.tmp 98) = .agg c.cs
  e103 : a.eval (.tmp 103) = .slice c.lz c.j c.lzc
  e104 : a.eval (.tmp 104) = .agg c.pv
  e105 : a.eval (.tmp 105) = .int .i64 (c.j : Int)
  e107 : a.eval (.tmp 107) = .agg c.ds
  hy : c.y.cells = c.cs.toList
  hz : c.z.cells = c.ds.toList
  hj : c.j ≤ 100
  hs : c.s.size ≤ 40000
variable {c : Kx} {a : Act} {Q : Exit → Act → World → Prop}
def Kx.loaded (c : Kx) (a : Act) : Act := ((((((((((a.put (some 93) (.pointer (some ⟨c.B + 1, 5, none⟩))).put (some 94) (.slice c.la c.j c.lc)).put (some 95) (.agg c.pv)).put (some 96) (.int .i64 (c.j : Int))).put (some 98) (.agg c.cs)).put (some 102) (.pointer (some ⟨c.B + 1 + 1, 5, none⟩))).put (some 103) (.slice c.lz c.j c.lzc)).put (some 104) (.agg c.pv)).put (some 105) (.int .i64 (c.j : Int))).put (some 107) (.agg c.ds))
def Kx.last (c : Kx) (a : Act) (k1 k2 g g2 cap cap2 : Nat) : Act :=
  (((((((((a.put (some 97) (.string c.key)).put (some 99) (.agg c.cs7)).put (some 100) (.slice (some ⟨k1, 0, none⟩) 1 1)).put (some 101) (.slice (some ⟨g, 0, none⟩) (c.j + 1) cap)).put (some 111) (.pointer (some ⟨c.B + 1, 5, none⟩))).put (some 106) (.string c.key)).put (some 108) (.agg c.ds7)).put (some 109) (.slice (some ⟨k2, 0, none⟩) 1 1)).put (some 110) (.slice (some ⟨g2, 0, none⟩) (c.j + 1) cap2)).put (some 112) (.pointer (some ⟨c.B + 1 + 1, 5, none⟩))
theorem wpOp_skip {P : Program} {ops : Array Oper} {i : Nat} {o : Oper} {K : Act → World → Prop} {b : Act} {w w' : World} (hi : ops[i]? = some o) (hg : o.guard = none) (hd : o.dst = none) (hr : (execOp b.eval o).run P w = .ok .skip w') (h : K b w') : wpOp P ops Q i K b w := by
  refine wpOp_of hi hg ?_
  unfold Oper.wp
  rw [hr, Oper.upon_skip, hd]
  exact h
def done17 : Array Bool := #[true, true, true, true, false, true, false, false, false, true, true, true, true, false, true, false, false, false, false, false, false, false]
set_option maxRecDepth 100000 in
set_option maxHeartbeats 1000000 in
theorem steps17 (ha : c.At a) (w : World) (hM : c.Mid w c.la c.lz c.j c.j c.lc c.lzc c.xs c.zs') (hpan : ∀ p (d : Nat) v (b : Act) u, Q (.panic p) (b.put (some d) v) u → Q (.panic p) b u)
    (hQ : ∀ k1 k2 g g2 cap cap2 u', KeysL c.wo u' c.B c.k c.m c.f c.nn c.s (c.j + 1) (some ⟨g, 0, none⟩) (some ⟨g2, 0, none⟩) cap cap2 (c.xs ++ [(c.key, c.y)]) (c.zs' ++ [(c.key, c.z)]) → Q .normal (c.last a k1 k2 g g2 cap cap2) u') :
    Any2 Tryd.prog .any ops17 Q c.S tail17 12 done17 a w := by
  have hj := ha.hj
  have hlow0 : c.B + 3 ≤ w.heap.size := by have := lt_of_at hM.bz; omega
  obtain ⟨i0, z0, hi, hz0, hzc, hz1, hz2⟩ := info_seven info54
  obtain ⟨i1, z1, hi', hz0', hzc', hz1', hz2'⟩ := info_seven info56
  have g1 := ev_get (t := 95) (a := a) (v := .agg c.pv) (ha.e95)
  have g2 := ev_get (t := 96) (a := a) (v := .int .i64 (c.j : Int)) (ha.e96)
  have hr : ∀ b : Act, b.tmps[95]?.getD undef = .agg c.pv → b.tmps[96]?.getD undef = .int .i64 (c.j : Int) → (execOp b.eval o17_4).run Tryd.prog w = .ok (.enter 23 #[.agg c.pv, .int .i64 (c.j : Int)]) w := fun b g1 g2 => by
    simp [execOp, o17_4, g1, g2, go_sem]
  refine Any2.one (i := 4) (by kernel_rfl) (wpOp_call (o := o17_4) (v := .string c.key) (by rfl) rfl (hr _ g1 g2) (key_any ⟨c.k, c.m, c.f, c.nn, c.s⟩ c.j w (by omega) ha.hs) ?_)
  clear g1 g2 hr
  intro w1 hf
  have hM1 := hM.move hf
  clear hf
  refine ⟨fun _ => hM1.S, ?_⟩
  show Any2 Tryd.prog .any ops17 Q c.S tail17 _ _ (a.put (some 97) (.string c.key)) w1
  have g0 := ev_get (t := 97) (a := (a.put (some 97) (.string c.key))) (v := .string c.key) (by exact ev_same (by rw [ha.size]; decide))
  have g1 := ev_get (t := 98) (a := (a.put (some 97) (.string c.key))) (v := .agg c.cs) (by rw [ev_ne (by decide)]; exact ha.e98)
  have hr : ∀ b : Act, b.tmps[97]?.getD undef = .string c.key → b.tmps[98]?.getD undef = .agg c.cs → (execOp b.eval o17_6).run Tryd.prog w1 = .ok (.value (.agg c.cs7)) w1 := fun b g0 g1 => by
    simp [execOp, o17_6, g0, g1, go_sem, Kx.cs, Kx.cs7]
  refine Any2.one (i := 6) (by kernel_rfl) (wpOp_run (o := o17_6) (by rfl) rfl (hr _ g0 g1) ⟨(fun _ => hM1.S), ?_⟩)
  clear hr g0 g1
  show Any2 Tryd.prog .any ops17 Q c.S tail17 _ _ ((a.put (some 97) (.string c.key)).put (some 99) (.agg c.cs7)) w1
  have g0 := ev_get (t := 99) (a := ((a.put (some 97) (.string c.key)).put (some 99) (.agg c.cs7))) (v := .agg c.cs7) (by exact ev_same (by rw [put_size, ha.size]; decide))
  have hr : ∀ b : Act, b.tmps[99]?.getD undef = .agg c.cs7 → (execOp b.eval o17_7).run Tryd.prog w1 = .ok (.value (.slice (some ⟨w1.heap.size, 0, none⟩) 1 1)) (w1.alloc (.cells c.cs7 54)) := fun b g0 => by
    simp [execOp, o17_7, g0, go_sem, Kx.cs7]
  have hM2 := hM1.move ((Fresh.refl w1).alloc (.cells c.cs7 54))
  have hk : (w1.alloc (.cells c.cs7 54)).heap[w1.heap.size]? = some (.cells c.cs7 54 (0, 0)) := at_new w1 _
  refine Any2.one (i := 7) (by kernel_rfl) (wpOp_run (o := o17_7) (by rfl) rfl (hr _ g0) ⟨(fun _ => hM2.S), ?_⟩)
  clear hr g0
  show Any2 Tryd.prog .any ops17 Q c.S tail17 _ _ (((a.put (some 97) (.string c.key)).put (some 99) (.agg c.cs7)).put (some 100) (.slice (some ⟨w1.heap.size, 0, none⟩) 1 1)) (w1.alloc (.cells c.cs7 54))
  generalize w1.alloc (.cells c.cs7 54) = w2 at *
  generalize w1.heap.size = k1 at *
  have e0 : (((a.put (some 97) (.string c.key)).put (some 99) (.agg c.cs7)).put (some 100) (.slice (some ⟨k1, 0, none⟩) 1 1)).eval (.tmp 94) = .slice c.la c.j c.lc := by rw [ev_ne (by decide), ev_ne (by decide), ev_ne (by decide)]; exact ha.e94
  have e1 : (((a.put (some 97) (.string c.key)).put (some 99) (.agg c.cs7)).put (some 100) (.slice (some ⟨k1, 0, none⟩) 1 1)).eval (.tmp 100) = .slice (some ⟨k1, 0, none⟩) 1 1 := by exact ev_same (by rw [put_size, put_size, ha.size]; decide)
  have hlow : c.B + 3 ≤ w2.heap.size := by have := lt_of_at hM2.bz; omega
  refine Any2.one (i := 8) (by kernel_rfl) (wpOp_of (o := o17_8) (by rfl) rfl ?_)
  refine wp_append_lies (P := Tryd.prog) w2 (.tmp 94) (.tmp 100) 27 (by rfl) (c.B + 3) 54 i0 z0 7 104 Tryd.underlying27 hi hz0 hz1 hz2 hzc (by decide) (.slice c.la c.j c.lc) c.j (pcells c.xs) e0 hM2.rx ⟨k1, 0, none⟩ 1 1 c.cs7.toList e1 (by rfl) (World.news_of_block hk) (fun v hv => by
      unfold Kx.cs7 at hv
      simp only [List.mem_cons, List.not_mem_nil, or_false] at hv
      rcases hv with rfl | rfl | rfl | rfl | rfl | rfl | rfl <;> rfl) (by decide) (by unfold maxLen; omega) (by omega) hlow w2.heap.size rfl ?_
  clear e0 e1 hlow
  intro g cap w3 hown hgrow _ _
  have hM3 := hM2.pushx (p := (c.key, c.y)) (by rw [pcellsOf, ha.hy]; exact hown) hgrow
  clear hown hgrow hk
  refine ⟨(fun _ => hM3.S), ?_⟩
  show Any2 Tryd.prog .any ops17 Q c.S tail17 _ _ ((((a.put (some 97) (.string c.key)).put (some 99) (.agg c.cs7)).put (some 100) (.slice (some ⟨k1, 0, none⟩) 1 1)).put (some 101) (.slice (some ⟨g, 0, none⟩) (c.j + 1) cap)) w3
  have g0 := ev_get (t := 9) (a := ((((a.put (some 97) (.string c.key)).put (some 99) (.agg c.cs7)).put (some 100) (.slice (some ⟨k1, 0, none⟩) 1 1)).put (some 101) (.slice (some ⟨g, 0, none⟩) (c.j + 1) cap))) (v := .pointer (some ⟨c.B + 1, 0, none⟩)) (by rw [ev_ne (by decide), ev_ne (by decide), ev_ne (by decide), ev_ne (by decide)]; exact ha.e9)
  have hr : ∀ b : Act, b.tmps[9]?.getD undef = .pointer (some ⟨c.B + 1, 0, none⟩) → ∀ u, (execOp b.eval o17_18).run Tryd.prog u = .ok (.value (.pointer (some ⟨c.B + 1, 5, none⟩))) u := fun b g0 u => by
    simp [execOp, o17_18, g0, go_sem]
  refine Any2.take (i := 18) (oi := o17_18) (v := .pointer (some ⟨c.B + 1, 5, none⟩)) (by rfl) (by kernel_rfl) (by kernel_rfl) (by kernel_rfl) (by rfl) (by kernel_rfl) (by kernel_rfl) (fun p b u h => hpan p _ _ b u h) hM3.S (.inl ⟨by rfl, fun u _ => hr _ g0 u⟩) ?_
  clear hr g0
  show Any2 Tryd.prog .any ops17 Q c.S tail17 _ _ (((((a.put (some 97) (.string c.key)).put (some 99) (.agg c.cs7)).put (some 100) (.slice (some ⟨k1, 0, none⟩) 1 1)).put (some 101) (.slice (some ⟨g, 0, none⟩) (c.j + 1) cap)).put (some 111) (.pointer (some ⟨c.B + 1, 5, none⟩))) w3
  have g1 := ev_get (t := 104) (a := (((((a.put (some 97) (.string c.key)).put (some 99) (.agg c.cs7)).put (some 100) (.slice (some ⟨k1, 0, none⟩) 1 1)).put (some 101) (.slice (some ⟨g, 0, none⟩) (c.j + 1) cap)).put (some 111) (.pointer (some ⟨c.B + 1, 5, none⟩)))) (v := .agg c.pv) (by rw [ev_ne (by decide), ev_ne (by decide), ev_ne (by decide), ev_ne (by decide), ev_ne (by decide)]; exact ha.e104)
  have g2 := ev_get (t := 105) (a := (((((a.put (some 97) (.string c.key)).put (some 99) (.agg c.cs7)).put (some 100) (.slice (some ⟨k1, 0, none⟩) 1 1)).put (some 101) (.slice (some ⟨g, 0, none⟩) (c.j + 1) cap)).put (some 111) (.pointer (some ⟨c.B + 1, 5, none⟩)))) (v := .int .i64 (c.j : Int)) (by rw [ev_ne (by decide), ev_ne (by decide), ev_ne (by decide), ev_ne (by decide), ev_ne (by decide)]; exact ha.e105)
  have hr : ∀ b : Act, b.tmps[104]?.getD undef = .agg c.pv → b.tmps[105]?.getD undef = .int .i64 (c.j : Int) → (execOp b.eval o17_13).run Tryd.prog w3 = .ok (.enter 23 #[.agg c.pv, .int .i64 (c.j : Int)]) w3 := fun b g1 g2 => by
    simp [execOp, o17_13, g1, g2, go_sem]
  refine Any2.one (i := 13) (by kernel_rfl) (wpOp_call (o := o17_13) (v := .string c.key) (by rfl) rfl (hr _ g1 g2) (key_any ⟨c.k, c.m, c.f, c.nn, c.s⟩ c.j w3 (by omega) ha.hs) ?_)
  clear g1 g2 hr
  intro w4 hf
  have hM4 := hM3.move hf
  clear hf
  refine ⟨fun _ => hM4.S, ?_⟩
  show Any2 Tryd.prog .any ops17 Q c.S tail17 _ _ ((((((a.put (some 97) (.string c.key)).put (some 99) (.agg c.cs7)).put (some 100) (.slice (some ⟨k1, 0, none⟩) 1 1)).put (some 101) (.slice (some ⟨g, 0, none⟩) (c.j + 1) cap)).put (some 111) (.pointer (some ⟨c.B + 1, 5, none⟩))).put (some 106) (.string c.key)) w4
  have g0 := ev_get (t := 106) (a := ((((((a.put (some 97) (.string c.key)).put (some 99) (.agg c.cs7)).put (some 100) (.slice (some ⟨k1, 0, none⟩) 1 1)).put (some 101) (.slice (some ⟨g, 0, none⟩) (c.j + 1) cap)).put (some 111) (.pointer (some ⟨c.B + 1, 5, none⟩))).put (some 106) (.string c.key))) (v := .string c.key) (by exact ev_same (by rw [put_size, put_size, put_size, put_size, put_size, ha.size]; decide))
  have g1 := ev_get (t := 107) (a := ((((((a.put (some 97) (.string c.key)).put (some 99) (.agg c.cs7)).put (some 100) (.slice (some ⟨k1, 0, none⟩) 1 1)).put (some 101) (.slice (some ⟨g, 0, none⟩) (c.j + 1) cap)).put (some 111) (.pointer (some ⟨c.B + 1, 5, none⟩))).put (some 106) (.string c.key))) (v := .agg c.ds) (by rw [ev_ne (by decide), ev_ne (by decide), ev_ne (by decide), ev_ne (by decide), ev_ne (by decide), ev_ne (by decide)]; exact ha.e107)
  have hr : ∀ b : Act, b.tmps[106]?.getD undef = .string c.key → b.tmps[107]?.getD undef = .agg c.ds → (execOp b.eval o17_15).run Tryd.prog w4 = .ok (.value (.agg c.ds7)) w4 := fun b g0 g1 => by
    simp [execOp, o17_15, g0, g1, go_sem, Kx.ds, Kx.ds7]
  refine Any2.one (i := 15) (by kernel_rfl) (wpOp_run (o := o17_15) (by rfl) rfl (hr _ g0 g1) ⟨(fun _ => hM4.S), ?_⟩)
  clear hr g0 g1
  show Any2 Tryd.prog .any ops17 Q c.S tail17 _ _ (((((((a.put (some 97) (.string c.key)).put (some 99) (.agg c.cs7)).put (some 100) (.slice (some ⟨k1, 0, none⟩) 1 1)).put (some 101) (.slice (some ⟨g, 0, none⟩) (c.j + 1) cap)).put (some 111) (.pointer (some ⟨c.B + 1, 5, none⟩))).put (some 106) (.string c.key)).put (some 108) (.agg c.ds7)) w4
  have g0 := ev_get (t := 108) (a := (((((((a.put (some 97) (.string c.key)).put (some 99) (.agg c.cs7)).put (some 100) (.slice (some ⟨k1, 0, none⟩) 1 1)).put (some 101) (.slice (some ⟨g, 0, none⟩) (c.j + 1) cap)).put (some 111) (.pointer (some ⟨c.B + 1, 5, none⟩))).put (some 106) (.string c.key)).put (some 108) (.agg c.ds7))) (v := .agg c.ds7) (by exact ev_same (by rw [put_size, put_size, put_size, put_size, put_size, put_size, ha.size]; decide))
  have hr : ∀ b : Act, b.tmps[108]?.getD undef = .agg c.ds7 → (execOp b.eval o17_16).run Tryd.prog w4 = .ok (.value (.slice (some ⟨w4.heap.size, 0, none⟩) 1 1)) (w4.alloc (.cells c.ds7 56)) := fun b g0 => by
    simp [execOp, o17_16, g0, go_sem, Kx.ds7]
  have hM5 := hM4.move ((Fresh.refl w4).alloc (.cells c.ds7 56))
  have hk : (w4.alloc (.cells c.ds7 56)).heap[w4.heap.size]? = some (.cells c.ds7 56 (0, 0)) := at_new w4 _
  refine Any2.one (i := 16) (by kernel_rfl) (wpOp_run (o := o17_16) (by rfl) rfl (hr _ g0) ⟨(fun _ => hM5.S), ?_⟩)
  clear hr g0
  show Any2 Tryd.prog .any ops17 Q c.S tail17 _ _ ((((((((a.put (some 97) (.string c.key)).put (some 99) (.agg c.cs7)).put (some 100) (.slice (some ⟨k1, 0, none⟩) 1 1)).put (some 101) (.slice (some ⟨g, 0, none⟩) (c.j + 1) cap)).put (some 111) (.pointer (some ⟨c.B + 1, 5, none⟩))).put (some 106) (.string c.key)).put (some 108) (.agg c.ds7)).put (some 109) (.slice (some ⟨w4.heap.size, 0, none⟩) 1 1)) (w4.alloc (.cells c.ds7 56))
  generalize w4.alloc (.cells c.ds7 56) = w5 at *
  generalize w4.heap.size = k2 at *
  have e0 : ((((((((a.put (some 97) (.string c.key)).put (some 99) (.agg c.cs7)).put (some 100) (.slice (some ⟨k1, 0, none⟩) 1 1)).put (some 101) (.slice (some ⟨g, 0, none⟩) (c.j + 1) cap)).put (some 111) (.pointer (some ⟨c.B + 1, 5, none⟩))).put (some 106) (.string c.key)).put (some 108) (.agg c.ds7)).put (some 109) (.slice (some ⟨k2, 0, none⟩) 1 1)).eval (.tmp 103) = .slice c.lz c.j c.lzc := by rw [ev_ne (by decide), ev_ne (by decide), ev_ne (by decide), ev_ne (by decide), ev_ne (by decide), ev_ne (by decide), ev_ne (by decide), ev_ne (by decide)]; exact ha.e103
  have e1 : ((((((((a.put (some 97) (.string c.key)).put (some 99) (.agg c.cs7)).put (some 100) (.slice (some ⟨k1, 0, none⟩) 1 1)).put (some 101) (.slice (some ⟨g, 0, none⟩) (c.j + 1) cap)).put (some 111) (.pointer (some ⟨c.B + 1, 5, none⟩))).put (some 106) (.string c.key)).put (some 108) (.agg c.ds7)).put (some 109) (.slice (some ⟨k2, 0, none⟩) 1 1)).eval (.tmp 109) = .slice (some ⟨k2, 0, none⟩) 1 1 := by exact ev_same (by rw [put_size, put_size, put_size, put_size, put_size, put_size, put_size, ha.size]; decide)
  have hlow : c.B + 3 ≤ w5.heap.size := by have := lt_of_at hM5.bz; omega
  refine Any2.one (i := 17) (by kernel_rfl) (wpOp_of (o := o17_17) (by rfl) rfl ?_)
  refine wp_append_lies (P := Tryd.prog) w5 (.tmp 103) (.tmp 109) 31 (by rfl) (c.B + 3) 56 i1 z1 7 104 Tryd.underlying31 hi' hz0' hz1' hz2' hzc' (by decide) (.slice c.lz c.j c.lzc) c.j (pcells c.zs') e0 hM5.rz ⟨k2, 0, none⟩ 1 1 c.ds7.toList e1 (by rfl) (World.news_of_block hk) (fun v hv => by
      unfold Kx.ds7 at hv
      simp only [List.mem_cons, List.not_mem_nil, or_false] at hv
      rcases hv with rfl | rfl | rfl | rfl | rfl | rfl | rfl <;> rfl) (by decide) (by unfold maxLen; omega) (by omega) hlow w5.heap.size rfl ?_
  clear e0 e1 hlow
  intro g2 cap2 w6 hown hgrow _ _
  have hM6 := hM5.pushz (p := (c.key, c.z)) (by rw [pcellsOf, ha.hz]; exact hown) hgrow
  clear hown hgrow hk
  refine ⟨(fun _ => hM6.S), ?_⟩
  show Any2 Tryd.prog .any ops17 Q c.S tail17 _ _ (((((((((a.put (some 97) (.string c.key)).put (some 99) (.agg c.cs7)).put (some 100) (.slice (some ⟨k1, 0, none⟩) 1 1)).put (some 101) (.slice (some ⟨g, 0, none⟩) (c.j + 1) cap)).put (some 111) (.pointer (some ⟨c.B + 1, 5, none⟩))).put (some 106) (.string c.key)).put (some 108) (.agg c.ds7)).put (some 109) (.slice (some ⟨k2, 0, none⟩) 1 1)).put (some 110) (.slice (some ⟨g2, 0, none⟩) (c.j + 1) cap2)) w6
  have hx5 := cell_of_at hM6.bx (i := 5) rfl
  have fx := (box_frozen hM6.bx).2
  have hbz : (w6.setCell ⟨c.B + 1, 5, none⟩ (.slice (some ⟨g, 0, none⟩) (c.j + 1) cap)).heap[c.B + 1 + 1]? = _ := (Below.heap_setCell _ _ _ _ (by show c.B + 1 + 1 ≠ c.B + 1; omega)).trans hM6.bz
  have hz5 := cell_of_at hbz (i := 5) rfl
  have fz := (box_frozen hbz).2
  have hST := hM6.stored
  have g0 := ev_get (t := 111) (a := (((((((((a.put (some 97) (.string c.key)).put (some 99) (.agg c.cs7)).put (some 100) (.slice (some ⟨k1, 0, none⟩) 1 1)).put (some 101) (.slice (some ⟨g, 0, none⟩) (c.j + 1) cap)).put (some 111) (.pointer (some ⟨c.B + 1, 5, none⟩))).put (some 106) (.string c.key)).put (some 108) (.agg c.ds7)).put (some 109) (.slice (some ⟨k2, 0, none⟩) 1 1)).put (some 110) (.slice (some ⟨g2, 0, none⟩) (c.j + 1) cap2))) (v := .pointer (some ⟨c.B + 1, 5, none⟩)) (by rw [ev_ne (by decide), ev_ne (by decide), ev_ne (by decide), ev_ne (by decide)]; exact ev_same (by rw [put_size, put_size, put_size, put_size, ha.size]; decide))
  have g1 := ev_get (t := 101) (a := (((((((((a.put (some 97) (.string c.key)).put (some 99) (.agg c.cs7)).put (some 100) (.slice (some ⟨k1, 0, none⟩) 1 1)).put (some 101) (.slice (some ⟨g, 0, none⟩) (c.j + 1) cap)).put (some 111) (.pointer (some ⟨c.B + 1, 5, none⟩))).put (some 106) (.string c.key)).put (some 108) (.agg c.ds7)).put (some 109) (.slice (some ⟨k2, 0, none⟩) 1 1)).put (some 110) (.slice (some ⟨g2, 0, none⟩) (c.j + 1) cap2))) (v := .slice (some ⟨g, 0, none⟩) (c.j + 1) cap) (by rw [ev_ne (by decide), ev_ne (by decide), ev_ne (by decide), ev_ne (by decide), ev_ne (by decide)]; exact ev_same (by rw [put_size, put_size, put_size, ha.size]; decide))
  have hr : ∀ b : Act, b.tmps[111]?.getD undef = .pointer (some ⟨c.B + 1, 5, none⟩) → b.tmps[101]?.getD undef = .slice (some ⟨g, 0, none⟩) (c.j + 1) cap → (execOp b.eval o17_19).run Tryd.prog w6 = .ok .skip (w6.setCell ⟨c.B + 1, 5, none⟩ (.slice (some ⟨g, 0, none⟩) (c.j + 1) cap)) := fun b g0 g1 => by
    simp [execOp, o17_19, g0, g1, go_sem, hx5, fx]
  refine Any2.one (i := 19) (by kernel_rfl) (wpOp_skip (o := o17_19) (by rfl) rfl rfl (hr _ g0 g1) ⟨(fun h => by cases h), ?_⟩)
  clear hr g0 g1
  generalize w6.setCell ⟨c.B + 1, 5, none⟩ (.slice (some ⟨g, 0, none⟩) (c.j + 1) cap) = w7 at *
  have g0 := ev_get (t := 10) (a := (((((((((a.put (some 97) (.string c.key)).put (some 99) (.agg c.cs7)).put (some 100) (.slice (some ⟨k1, 0, none⟩) 1 1)).put (some 101) (.slice (some ⟨g, 0, none⟩) (c.j + 1) cap)).put (some 111) (.pointer (some ⟨c.B + 1, 5, none⟩))).put (some 106) (.string c.key)).put (some 108) (.agg c.ds7)).put (some 109) (.slice (some ⟨k2, 0, none⟩) 1 1)).put (some 110) (.slice (some ⟨g2, 0, none⟩) (c.j + 1) cap2))) (v := .pointer (some ⟨c.B + 1 + 1, 0, none⟩)) (by rw [ev_ne (by decide), ev_ne (by decide), ev_ne (by decide), ev_ne (by decide), ev_ne (by decide), ev_ne (by decide), ev_ne (by decide), ev_ne (by decide), ev_ne (by decide)]; exact ha.e10)
  have hr : ∀ b : Act, b.tmps[10]?.getD undef = .pointer (some ⟨c.B + 1 + 1, 0, none⟩) → (execOp b.eval o17_20).run Tryd.prog w7 = .ok (.value (.pointer (some ⟨c.B + 1 + 1, 5, none⟩))) w7 := fun b g0 => by
    simp [execOp, o17_20, g0, go_sem]
  refine Any2.one (i := 20) (by kernel_rfl) (wpOp_run (o := o17_20) (by rfl) rfl (hr _ g0) ⟨(fun h => by cases h), ?_⟩)
  clear hr g0
  show Any2 Tryd.prog .any ops17 Q c.S tail17 _ _ ((((((((((a.put (some 97) (.string c.key)).put (some 99) (.agg c.cs7)).put (some 100) (.slice (some ⟨k1, 0, none⟩) 1 1)).put (some 101) (.slice (some ⟨g, 0, none⟩) (c.j + 1) cap)).put (some 111) (.pointer (some ⟨c.B + 1, 5, none⟩))).put (some 106) (.string c.key)).put (some 108) (.agg c.ds7)).put (some 109) (.slice (some ⟨k2, 0, none⟩) 1 1)).put (some 110) (.slice (some ⟨g2, 0, none⟩) (c.j + 1) cap2)).put (some 112) (.pointer (some ⟨c.B + 1 + 1, 5, none⟩))) w7
  have g0 := ev_get (t := 112) (a := ((((((((((a.put (some 97) (.string c.key)).put (some 99) (.agg c.cs7)).put (some 100) (.slice (some ⟨k1, 0, none⟩) 1 1)).put (some 101) (.slice (some ⟨g, 0, none⟩) (c.j + 1) cap)).put (some 111) (.pointer (some ⟨c.B + 1, 5, none⟩))).put (some 106) (.string c.key)).put (some 108) (.agg c.ds7)).put (some 109) (.slice (some ⟨k2, 0, none⟩) 1 1)).put (some 110) (.slice (some ⟨g2, 0, none⟩) (c.j + 1) cap2)).put (some 112) (.pointer (some ⟨c.B + 1 + 1, 5, none⟩)))) (v := .pointer (some ⟨c.B + 1 + 1, 5, none⟩)) (by exact ev_same (by rw [put_size, put_size, put_size, put_size, put_size, put_size, put_size, put_size, put_size, ha.size]; decide))
  have g1 := ev_get (t := 110) (a := ((((((((((a.put (some 97) (.string c.key)).put (some 99) (.agg c.cs7)).put (some 100) (.slice (some ⟨k1, 0, none⟩) 1 1)).put (some 101) (.slice (some ⟨g, 0, none⟩) (c.j + 1) cap)).put (some 111) (.pointer (some ⟨c.B + 1, 5, none⟩))).put (some 106) (.string c.key)).put (some 108) (.agg c.ds7)).put (some 109) (.slice (some ⟨k2, 0, none⟩) 1 1)).put (some 110) (.slice (some ⟨g2, 0, none⟩) (c.j + 1) cap2)).put (some 112) (.pointer (some ⟨c.B + 1 + 1, 5, none⟩)))) (v := .slice (some ⟨g2, 0, none⟩) (c.j + 1) cap2) (by rw [ev_ne (by decide)]; exact ev_same (by rw [put_size, put_size, put_size, put_size, put_size, put_size, put_size, put_size, ha.size]; decide))
  have hr : ∀ b : Act, b.tmps[112]?.getD undef = .pointer (some ⟨c.B + 1 + 1, 5, none⟩) → b.tmps[110]?.getD undef = .slice (some ⟨g2, 0, none⟩) (c.j + 1) cap2 → (execOp b.eval o17_21).run Tryd.prog w7 = .ok .skip (w7.setCell ⟨c.B + 1 + 1, 5, none⟩ (.slice (some ⟨g2, 0, none⟩) (c.j + 1) cap2)) := fun b g0 g1 => by
    simp [execOp, o17_21, g0, g1, go_sem, hz5, fz]
  refine Any2.one (i := 21) (by kernel_rfl) (wpOp_skip (o := o17_21) (by rfl) rfl rfl (hr _ g0 g1) ⟨(fun h => by cases h), ?_⟩)
  exact Any2.end (by kernel_rfl) (hQ k1 k2 g g2 cap cap2 _ hST)
set_option maxRecDepth 100000 in
set_option maxHeartbeats 1000000 in
/-- THE REGION: keys and their twins grow by one. -/
theorem region17 (w : World) (hs : a.tmps.size = 158) (e7 : a.eval (.tmp 7) = .pointer (some ⟨c.B, 0, none⟩)) (e9 : a.eval (.tmp 9) = .pointer (some ⟨c.B + 1, 0, none⟩)) (e10 : a.eval (.tmp 10) = .pointer (some ⟨c.B + 1 + 1, 0, none⟩)) (e11 : a.eval (.tmp 11) = .int .i64 (c.j : Int)) (e12 : a.eval (.tmp 12) = .pointer (some ⟨c.b1, 0, none⟩)) (e13 : a.eval (.tmp 13) = .pointer (some ⟨c.b2, 0, none⟩))
    (hy : c.y.cells = c.cs.toList) (hz : c.z.cells = c.ds.toList) (hj : c.j ≤ 100) (hsz0 : c.s.size ≤ 40000) (hM0 : c.Mid w c.la c.lz c.j c.j c.lc c.lzc c.xs c.zs') (hpan : ∀ p (d : Nat) v (b : Act) u, Q (.panic p) (b.put (some d) v) u → Q (.panic p) b u)
    (hQ : ∀ k1 k2 g g2 cap cap2 u', KeysL c.wo u' c.B c.k c.m c.f c.nn c.s (c.j + 1) (some ⟨g, 0, none⟩) (some ⟨g2, 0, none⟩) cap cap2 (c.xs ++ [(c.key, c.y)]) (c.zs' ++ [(c.key, c.z)]) → Q .normal (c.last (c.loaded a) k1 k2 g g2 cap cap2) u') : (Code.region 17 ops17 true).wp Tryd.prog Q a w := by
  have hM := hM0.move (Fresh.refl w).drew
  have hS := hM.S
  refine Any2.start (S := c.S) (tail := tail17) (by kernel_rfl) ?_
  have hsz : ops17.size = 21 + 1 := rfl
  rw [hsz]
  refine Any2.take (i := 0) (oi := o17_0) (v := .pointer (some ⟨c.B + 1, 5, none⟩)) (by rfl) (by kernel_rfl) (by kernel_rfl) (by kernel_rfl) (by rfl) (by kernel_rfl) (by kernel_rfl) (fun p b u h => hpan p _ _ b u h) hS (.inl ⟨by rfl, fun u hu => ?_⟩) ?_
  · have g := ev_get (t := 9) (a := a) (v := .pointer (some ⟨c.B + 1, 0, none⟩)) (e9)
    simp [execOp, o17_0, g, go_sem]
  show Any2 Tryd.prog .any ops17 Q c.S tail17 _ _ (a.put (some 93) (.pointer (some ⟨c.B + 1, 5, none⟩))) w.drew
  refine Any2.take (i := 1) (oi := o17_1) (v := .slice c.la c.j c.lc) (by rfl) (by kernel_rfl) (by kernel_rfl) (by kernel_rfl) (by rfl) (by kernel_rfl) (by kernel_rfl) (fun p b u h => hpan p _ _ b u h) hS (.inl ⟨by rfl, fun u hu => ?_⟩) ?_
  · have g := ev_get (t := 93) (a := (a.put (some 93) (.pointer (some ⟨c.B + 1, 5, none⟩)))) (v := .pointer (some ⟨c.B + 1, 5, none⟩)) (by exact ev_same (by rw [hs]; decide))
    obtain ⟨h1, h2, ⟨q0, q1, q2, q3, q4⟩, ⟨k0, k1, k2, k3, k4, k5⟩, n0, n1, n2, n3, n4, n5⟩ := hu
    generalize (a.put (some 93) (.pointer (some ⟨c.B + 1, 5, none⟩))) = b at *
    simp [execOp, o17_1, g, go_sem, h1]
  show Any2 Tryd.prog .any ops17 Q c.S tail17 _ _ ((a.put (some 93) (.pointer (some ⟨c.B + 1, 5, none⟩))).put (some 94) (.slice c.la c.j c.lc)) w.drew
  refine Any2.take (i := 2) (oi := o17_2) (v := .agg c.pv) (by rfl) (by kernel_rfl) (by kernel_rfl) (by kernel_rfl) (by rfl) (by kernel_rfl) (by kernel_rfl) (fun p b u h => hpan p _ _ b u h) hS (.inl ⟨by rfl, fun u hu => ?_⟩) ?_
  · have g := ev_get (t := 7) (a := ((a.put (some 93) (.pointer (some ⟨c.B + 1, 5, none⟩))).put (some 94) (.slice c.la c.j c.lc))) (v := .pointer (some ⟨c.B, 0, none⟩)) (by rw [ev_ne (by decide), ev_ne (by decide)]; exact e7)
    obtain ⟨h1, h2, ⟨q0, q1, q2, q3, q4⟩, ⟨k0, k1, k2, k3, k4, k5⟩, n0, n1, n2, n3, n4, n5⟩ := hu
    generalize ((a.put (some 93) (.pointer (some ⟨c.B + 1, 5, none⟩))).put (some 94) (.slice c.la c.j c.lc)) = b at *
    simp [execOp, o17_2, g, go_sem, q0, q1, q2, q3, q4, Kx.pv]
  show Any2 Tryd.prog .any ops17 Q c.S tail17 _ _ (((a.put (some 93) (.pointer (some ⟨c.B + 1, 5, none⟩))).put (some 94) (.slice c.la c.j c.lc)).put (some 95) (.agg c.pv)) w.drew
  refine Any2.take (i := 3) (oi := o17_3) (v := .int .i64 (c.j : Int)) (by rfl) (by kernel_rfl) (by kernel_rfl) (by kernel_rfl) (by rfl) (by kernel_rfl) (by kernel_rfl) (fun p b u h => hpan p _ _ b u h) hS (.inl ⟨by rfl, fun u hu => ?_⟩) ?_
  · have g := ev_get (t := 11) (a := (((a.put (some 93) (.pointer (some ⟨c.B + 1, 5, none⟩))).put (some 94) (.slice c.la c.j c.lc)).put (some 95) (.agg c.pv))) (v := .int .i64 (c.j : Int)) (by rw [ev_ne (by decide), ev_ne (by decide), ev_ne (by decide)]; exact e11)
    generalize (((a.put (some 93) (.pointer (some ⟨c.B + 1, 5, none⟩))).put (some 94) (.slice c.la c.j c.lc)).put (some 95) (.agg c.pv)) = b at *
    simp [execOp, o17_3, g, go_sem]
  show Any2 Tryd.prog .any ops17 Q c.S tail17 _ _ ((((a.put (some 93) (.pointer (some ⟨c.B + 1, 5, none⟩))).put (some 94) (.slice c.la c.j c.lc)).put (some 95) (.agg c.pv)).put (some 96) (.int .i64 (c.j : Int))) w.drew
  refine Any2.take (i := 5) (oi := o17_5) (v := .agg c.cs) (by rfl) (by kernel_rfl) (by kernel_rfl) (by kernel_rfl) (by rfl) (by kernel_rfl) (by kernel_rfl) (fun p b u h => hpan p _ _ b u h) hS (.inl ⟨by rfl, fun u hu => ?_⟩) ?_
  · have g := ev_get (t := 12) (a := ((((a.put (some 93) (.pointer (some ⟨c.B + 1, 5, none⟩))).put (some 94) (.slice c.la c.j c.lc)).put (some 95) (.agg c.pv)).put (some 96) (.int .i64 (c.j : Int)))) (v := .pointer (some ⟨c.b1, 0, none⟩)) (by rw [ev_ne (by decide), ev_ne (by decide), ev_ne (by decide), ev_ne (by decide)]; exact e12)
    obtain ⟨h1, h2, ⟨q0, q1, q2, q3, q4⟩, ⟨k0, k1, k2, k3, k4, k5⟩, n0, n1, n2, n3, n4, n5⟩ := hu
    generalize ((((a.put (some 93) (.pointer (some ⟨c.B + 1, 5, none⟩))).put (some 94) (.slice c.la c.j c.lc)).put (some 95) (.agg c.pv)).put (some 96) (.int .i64 (c.j : Int))) = b at *
    simp [execOp, o17_5, g, go_sem, k0, k1, k2, k3, k4, k5, Kx.cs]
  show Any2 Tryd.prog .any ops17 Q c.S tail17 _ _ (((((a.put (some 93) (.pointer (some ⟨c.B + 1, 5, none⟩))).put (some 94) (.slice c.la c.j c.lc)).put (some 95) (.agg c.pv)).put (some 96) (.int .i64 (c.j : Int))).put (some 98) (.agg c.cs)) w.drew
  refine Any2.take (i := 9) (oi := o17_9) (v := .pointer (some ⟨c.B + 1 + 1, 5, none⟩)) (by rfl) (by kernel_rfl) (by kernel_rfl) (by kernel_rfl) (by rfl) (by kernel_rfl) (by kernel_rfl) (fun p b u h => hpan p _ _ b u h) hS (.inl ⟨by rfl, fun u hu => ?_⟩) ?_
  · have g := ev_get (t := 10) (a := (((((a.put (some 93) (.pointer (some ⟨c.B + 1, 5, none⟩))).put (some 94) (.slice c.la c.j c.lc)).put (some 95) (.agg c.pv)).put (some 96) (.int .i64 (c.j : Int))).put (some 98) (.agg c.cs))) (v := .pointer (some ⟨c.B + 1 + 1, 0, none⟩)) (by rw [ev_ne (by decide), ev_ne (by decide), ev_ne (by decide), ev_ne (by decide), ev_ne (by decide)]; exact e10)
    generalize (((((a.put (some 93) (.pointer (some ⟨c.B + 1, 5, none⟩))).put (some 94) (.slice c.la c.j c.lc)).put (some 95) (.agg c.pv)).put (some 96) (.int .i64 (c.j : Int))).put (some 98) (.agg c.cs)) = b at *
    simp [execOp, o17_9, g, go_sem]
  show Any2 Tryd.prog .any ops17 Q c.S tail17 _ _ ((((((a.put (some 93) (.pointer (some ⟨c.B + 1, 5, none⟩))).put (some 94) (.slice c.la c.j c.lc)).put (some 95) (.agg c.pv)).put (some 96) (.int .i64 (c.j : Int))).put (some 98) (.agg c.cs)).put (some 102) (.pointer (some ⟨c.B + 1 + 1, 5, none⟩))) w.drew
  refine Any2.take (i := 10) (oi := o17_10) (v := .slice c.lz c.j c.lzc) (by rfl) (by kernel_rfl) (by kernel_rfl) (by kernel_rfl) (by rfl) (by kernel_rfl) (by kernel_rfl) (fun p b u h => hpan p _ _ b u h) hS (.inl ⟨by rfl, fun u hu => ?_⟩) ?_
  · have g := ev_get (t := 102) (a := ((((((a.put (some 93) (.pointer (some ⟨c.B + 1, 5, none⟩))).put (some 94) (.slice c.la c.j c.lc)).put (some 95) (.agg c.pv)).put (some 96) (.int .i64 (c.j : Int))).put (some 98) (.agg c.cs)).put (some 102) (.pointer (some ⟨c.B + 1 + 1, 5, none⟩)))) (v := .pointer (some ⟨c.B + 1 + 1, 5, none⟩)) (by exact ev_same (by rw [put_size, put_size, put_size, put_size, put_size, hs]; decide))
    obtain ⟨h1, h2, ⟨q0, q1, q2, q3, q4⟩, ⟨k0, k1, k2, k3, k4, k5⟩, n0, n1, n2, n3, n4, n5⟩ := hu
    generalize ((((((a.put (some 93) (.pointer (some ⟨c.B + 1, 5, none⟩))).put (some 94) (.slice c.la c.j c.lc)).put (some 95) (.agg c.pv)).put (some 96) (.int .i64 (c.j : Int))).put (some 98) (.agg c.cs)).put (some 102) (.pointer (some ⟨c.B + 1 + 1, 5, none⟩))) = b at *
    simp [execOp, o17_10, g, go_sem, h2]
  show Any2 Tryd.prog .any ops17 Q c.S tail17 _ _ (((((((a.put (some 93) (.pointer (some ⟨c.B + 1, 5, none⟩))).put (some 94) (.slice c.la c.j c.lc)).put (some 95) (.agg c.pv)).put (some 96) (.int .i64 (c.j : Int))).put (some 98) (.agg c.cs)).put (some 102) (.pointer (some ⟨c.B + 1 + 1, 5, none⟩))).put (some 103) (.slice c.lz c.j c.lzc)) w.drew
  refine Any2.take (i := 11) (oi := o17_11) (v := .agg c.pv) (by rfl) (by kernel_rfl) (by kernel_rfl) (by kernel_rfl) (by rfl) (by kernel_rfl) (by kernel_rfl) (fun p b u h => hpan p _ _ b u h) hS (.inl ⟨by rfl, fun u hu => ?_⟩) ?_
  · have g := ev_get (t := 7) (a := (((((((a.put (some 93) (.pointer (some ⟨c.B + 1, 5, none⟩))).put (some 94) (.slice c.la c.j c.lc)).put (some 95) (.agg c.pv)).put (some 96) (.int .i64 (c.j : Int))).put (some 98) (.agg c.cs)).put (some 102) (.pointer (some ⟨c.B + 1 + 1, 5, none⟩))).put (some 103) (.slice c.lz c.j c.lzc))) (v := .pointer (some ⟨c.B, 0, none⟩)) (by rw [ev_ne (by decide), ev_ne (by decide), ev_ne (by decide), ev_ne (by decide), ev_ne (by decide), ev_ne (by decide), ev_ne (by decide)]; exact e7)
    obtain ⟨h1, h2, ⟨q0, q1, q2, q3, q4⟩, ⟨k0, k1, k2, k3, k4, k5⟩, n0, n1, n2, n3, n4, n5⟩ := hu
    generalize (((((((a.put (some 93) (.pointer (some ⟨c.B + 1, 5, none⟩))).put (some 94) (.slice c.la c.j c.lc)).put (some 95) (.agg c.pv)).put (some 96) (.int .i64 (c.j : Int))).put (some 98) (.agg c.cs)).put (some 102) (.pointer (some ⟨c.B + 1 + 1, 5, none⟩))).put (some 103) (.slice c.lz c.j c.lzc)) = b at *
    simp [execOp, o17_11, g, go_sem, q0, q1, q2, q3, q4, Kx.pv]
  show Any2 Tryd.prog .any ops17 Q c.S tail17 _ _ ((((((((a.put (some 93) (.pointer (some ⟨c.B + 1, 5, none⟩))).put (some 94) (.slice c.la c.j c.lc)).put (some 95) (.agg c.pv)).put (some 96) (.int .i64 (c.j : Int))).put (some 98) (.agg c.cs)).put (some 102) (.pointer (some ⟨c.B + 1 + 1, 5, none⟩))).put (some 103) (.slice c.lz c.j c.lzc)).put (some 104) (.agg c.pv)) w.drew
  refine Any2.take (i := 12) (oi := o17_12) (v := .int .i64 (c.j : Int)) (by rfl) (by kernel_rfl) (by kernel_rfl) (by kernel_rfl) (by rfl) (by kernel_rfl) (by kernel_rfl) (fun p b u h => hpan p _ _ b u h) hS (.inl ⟨by rfl, fun u hu => ?_⟩) ?_
  · have g := ev_get (t := 11) (a := ((((((((a.put (some 93) (.pointer (some ⟨c.B + 1, 5, none⟩))).put (some 94) (.slice c.la c.j c.lc)).put (some 95) (.agg c.pv)).put (some 96) (.int .i64 (c.j : Int))).put (some 98) (.agg c.cs)).put (some 102) (.pointer (some ⟨c.B + 1 + 1, 5, none⟩))).put (some 103) (.slice c.lz c.j c.lzc)).put (some 104) (.agg c.pv))) (v := .int .i64 (c.j : Int)) (by rw [ev_ne (by decide), ev_ne (by decide), ev_ne (by decide), ev_ne (by decide), ev_ne (by decide), ev_ne (by decide), ev_ne (by decide), ev_ne (by decide)]; exact e11)
    generalize ((((((((a.put (some 93) (.pointer (some ⟨c.B + 1, 5, none⟩))).put (some 94) (.slice c.la c.j c.lc)).put (some 95) (.agg c.pv)).put (some 96) (.int .i64 (c.j : Int))).put (some 98) (.agg c.cs)).put (some 102) (.pointer (some ⟨c.B + 1 + 1, 5, none⟩))).put (some 103) (.slice c.lz c.j c.lzc)).put (some 104) (.agg c.pv)) = b at *
    simp [execOp, o17_12, g, go_sem]
  show Any2 Tryd.prog .any ops17 Q c.S tail17 _ _ (((((((((a.put (some 93) (.pointer (some ⟨c.B + 1, 5, none⟩))).put (some 94) (.slice c.la c.j c.lc)).put (some 95) (.agg c.pv)).put (some 96) (.int .i64 (c.j : Int))).put (some 98) (.agg c.cs)).put (some 102) (.pointer (some ⟨c.B + 1 + 1, 5, none⟩))).put (some 103) (.slice c.lz c.j c.lzc)).put (some 104) (.agg c.pv)).put (some 105) (.int .i64 (c.j : Int))) w.drew
  refine Any2.take (i := 14) (oi := o17_14) (v := .agg c.ds) (by rfl) (by kernel_rfl) (by kernel_rfl) (by kernel_rfl) (by rfl) (by kernel_rfl) (by kernel_rfl) (fun p b u h => hpan p _ _ b u h) hS (.inl ⟨by rfl, fun u hu => ?_⟩) ?_
  · have g := ev_get (t := 13) (a := (((((((((a.put (some 93) (.pointer (some ⟨c.B + 1, 5, none⟩))).put (some 94) (.slice c.la c.j c.lc)).put (some 95) (.agg c.pv)).put (some 96) (.int .i64 (c.j : Int))).put (some 98) (.agg c.cs)).put (some 102) (.pointer (some ⟨c.B + 1 + 1, 5, none⟩))).put (some 103) (.slice c.lz c.j c.lzc)).put (some 104) (.agg c.pv)).put (some 105) (.int .i64 (c.j : Int)))) (v := .pointer (some ⟨c.b2, 0, none⟩)) (by rw [ev_ne (by decide), ev_ne (by decide), ev_ne (by decide), ev_ne (by decide), ev_ne (by decide), ev_ne (by decide), ev_ne (by decide), ev_ne (by decide), ev_ne (by decide)]; exact e13)
    obtain ⟨h1, h2, ⟨q0, q1, q2, q3, q4⟩, ⟨k0, k1, k2, k3, k4, k5⟩, n0, n1, n2, n3, n4, n5⟩ := hu
    generalize (((((((((a.put (some 93) (.pointer (some ⟨c.B + 1, 5, none⟩))).put (some 94) (.slice c.la c.j c.lc)).put (some 95) (.agg c.pv)).put (some 96) (.int .i64 (c.j : Int))).put (some 98) (.agg c.cs)).put (some 102) (.pointer (some ⟨c.B + 1 + 1, 5, none⟩))).put (some 103) (.slice c.lz c.j c.lzc)).put (some 104) (.agg c.pv)).put (some 105) (.int .i64 (c.j : Int))) = b at *
    simp [execOp, o17_14, g, go_sem, n0, n1, n2, n3, n4, n5, Kx.ds]
  show Any2 Tryd.prog .any ops17 Q c.S tail17 _ _ ((((((((((a.put (some 93) (.pointer (some ⟨c.B + 1, 5, none⟩))).put (some 94) (.slice c.la c.j c.lc)).put (some 95) (.agg c.pv)).put (some 96) (.int .i64 (c.j : Int))).put (some 98) (.agg c.cs)).put (some 102) (.pointer (some ⟨c.B + 1 + 1, 5, none⟩))).put (some 103) (.slice c.lz c.j c.lzc)).put (some 104) (.agg c.pv)).put (some 105) (.int .i64 (c.j : Int))).put (some 107) (.agg c.ds)) w.drew
  have hL : Kx.At c (c.loaded a) := by
    refine ⟨?_, ?_, ?_, ?_, ?_, ?_, ?_, ?_, ?_, ?_, ?_, hy, hz, hj, hsz0⟩
    · simp only [Kx.loaded, put_size, hs]
    · rw [Kx.loaded]; exact (by rw [ev_ne (by decide), ev_ne (by decide), ev_ne (by decide), ev_ne (by decide), ev_ne (by decide), ev_ne (by decide), ev_ne (by decide), ev_ne (by decide), ev_ne (by decide), ev_ne (by decide)]; exact e9)
    · rw [Kx.loaded]; exact (by rw [ev_ne (by decide), ev_ne (by decide), ev_ne (by decide), ev_ne (by decide), ev_ne (by decide), ev_ne (by decide), ev_ne (by decide), ev_ne (by decide), ev_ne (by decide), ev_ne (by decide)]; exact e10)
    · rw [Kx.loaded]; exact (by rw [ev_ne (by decide), ev_ne (by decide), ev_ne (by decide), ev_ne (by decide), ev_ne (by decide), ev_ne (by decide), ev_ne (by decide), ev_ne (by decide)]; exact ev_same (by rw [put_size, hs]; decide))
    · rw [Kx.loaded]; exact (by rw [ev_ne (by decide), ev_ne (by decide), ev_ne (by decide), ev_ne (by decide), ev_ne (by decide), ev_ne (by decide), ev_ne (by decide)]; exact ev_same (by rw [put_size, put_size, hs]; decide))
    · rw [Kx.loaded]; exact (by rw [ev_ne (by decide), ev_ne (by decide), ev_ne (by decide), ev_ne (by decide), ev_ne (by decide), ev_ne (by decide)]; exact ev_same (by rw [put_size, put_size, put_size, hs]; decide))
    · rw [Kx.loaded]; exact (by rw [ev_ne (by decide), ev_ne (by decide), ev_ne (by decide), ev_ne (by decide), ev_ne (by decide)]; exact ev_same (by rw [put_size, put_size, put_size, put_size, hs]; decide))
    · rw [Kx.loaded]; exact (by rw [ev_ne (by decide), ev_ne (by decide), ev_ne (by decide)]; exact ev_same (by rw [put_size, put_size, put_size, put_size, put_size, put_size, hs]; decide))
    · rw [Kx.loaded]; exact (by rw [ev_ne (by decide), ev_ne (by decide)]; exact ev_same (by rw [put_size, put_size, put_size, put_size, put_size, put_size, put_size, hs]; decide))
    · rw [Kx.loaded]; exact (by rw [ev_ne (by decide)]; exact ev_same (by rw [put_size, put_size, put_size, put_size, put_size, put_size, put_size, put_size, hs]; decide))
    · rw [Kx.loaded]; exact (by exact ev_same (by rw [put_size, put_size, put_size, put_size, put_size, put_size, put_size, put_size, put_size, hs]; decide))
  exact (congrArg (fun D => Any2 Tryd.prog .any ops17 Q c.S tail17 12 D (c.loaded a) w.drew) (show _ = done17 by kernel_rfl)).mpr (steps17 hL w.drew hM hpan hQ)
end Go.Proofs.YtonakfkiidhebaaDoor
