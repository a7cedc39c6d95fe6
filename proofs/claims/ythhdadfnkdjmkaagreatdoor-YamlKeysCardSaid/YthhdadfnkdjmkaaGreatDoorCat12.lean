/-
  Worlds in which some blocks read as empty: a value that lies in such a one has no row in these blocks.
  The statements' own Of: a value as the document has it: what grows in it.
-/
import Derived.Test.YthhdadfnkdjmkaaGreatDoorCat11
namespace Go.Proofs.YthhdadfnkdjmkaaGreatDoor.v
open Go.ChangeShapes Go.WideShapes Go.ChangeAt Go.RowKit

def Wo (p : Nat → Bool) (w : World) : World := { w with heap := w.heap.mapIdx fun i o => if p i = true then .cells #[] 27 (0, 0) else o }
theorem wo_heap {p : Nat → Bool} {k : Nat} (w : World) (h : p k = false) : (Wo p w).heap[k]? = w.heap[k]? := by
  simp only [Wo, Array.getElem?_mapIdx, h]
  cases w.heap[k]? <;> rfl
theorem wo_none {p : Nat → Bool} {b i : Nat} (w : World) (h : p b = true) (v : Value) : ¬ (Wo p w).cell? ⟨b, i, none⟩ = some v := by
  intro e
  unfold World.cell? at e
  have hb : (Wo p w).heap[b]? = none ∨ (Wo p w).heap[b]? = some (.cells #[] 27 (0, 0)) := by
    simp only [Wo, Array.getElem?_mapIdx, h]
    cases w.heap[b]? with
    | none => exact .inl rfl
    | some o => exact .inr rfl
  rcases hb with hb | hb
  · simp [hb] at e
  · simp [hb] at e
theorem wo_cell {p : Nat → Bool} {b i : Nat} {w : World} {v : Value} (h : (Wo p w).cell? ⟨b, i, none⟩ = some v) : p b = false ∧ w.cell? ⟨b, i, none⟩ = some v := by
  have h1 : p b = false := by
    cases hp : p b with
    | false => rfl
    | true => exact absurd h (wo_none w hp v)
  refine ⟨h1, ?_⟩
  rw [← h]
  exact (World.cell?_of_block (a := ⟨b, i, none⟩) (wo_heap w h1)).symm
theorem wo_up {p : Nat → Bool} {b i : Nat} {w : World} {v : Value} (hp : p b = false) (h : w.cell? ⟨b, i, none⟩ = some v) : (Wo p w).cell? ⟨b, i, none⟩ = some v := by
  rw [World.cell?_of_block (a := ⟨b, i, none⟩) (wo_heap w hp)]; exact h
theorem cell_lt {w : World} {b i : Nat} {v : Value} (h : w.cell? ⟨b, i, none⟩ = some v) : b < w.heap.size := World.block_lt_of_cell? w ⟨b, i, none⟩ h
/-- A value lies in the blocks from N on. -/
def M.New (N : Nat) (w : World) (m : M) : Prop := m.At (Wo (fun k => decide (k < N)) w)
/-- A value has no row in block B or ahead of it, none in block g. -/
def M.Off (B : Nat) (g : Option Nat) (w : World) (m : M) : Prop := m.At (Wo (fun k => decide (k ≤ B ∨ some k = g)) w)
theorem M.New.at {N : Nat} {w : World} {m : M} (h : m.New N w) : m.At w := h.cells fun _ _ _ e => (wo_cell e).2
theorem M.Off.at {B : Nat} {g : Option Nat} {w : World} {m : M} (h : m.Off B g w) : m.At w := h.cells fun _ _ _ e => (wo_cell e).2
theorem M.New.move {N : Nat} {w w' : World} {m : M} (h : m.New N w) (f : Fresh w w') : m.New N w' := h.cells fun g j x e => by
  obtain ⟨h1, h2⟩ := wo_cell e
  exact wo_up h1 (f.cell h2)
theorem M.New.mono {N N' : Nat} {w : World} {m : M} (h : m.New N w) (hN : N' ≤ N) : m.New N' w := h.cells fun g j x e => by
  obtain ⟨h1, h2⟩ := wo_cell e
  exact wo_up (by simp at h1 ⊢; omega) h2
theorem M.Off.move {B : Nat} {g : Option Nat} {w w' : World} {m : M} (h : m.Off B g w) (f : Fresh w w') : m.Off B g w' := h.cells fun gg j x e => by
  obtain ⟨h1, h2⟩ := wo_cell e
  exact wo_up h1 (f.cell h2)
/-- What is new has no row in an old block. -/
theorem M.New.off {N B : Nat} {w : World} {m : M} (h : m.New N w) {g : Option Nat} (hB : B < N) (hg : ∀ k, g = some k → k < N) : m.Off B g w := h.cells fun gg j x e => by
  obtain ⟨h1, h2⟩ := wo_cell e
  refine wo_up ?_ h2
  rw [decide_eq_false_iff_not]
  simp at h1
  rintro (e2 | e2)
  · omega
  · have := hg gg e2.symm
    omega
/-- Behind an append to the row in block r: in it again, or in a new one. -/
theorem M.Off.grown {B : Nat} {r : Option Nat} {g : Nat} {w w' : World} {m : M} (h : m.Off B r w) (hg : w.grownBy w' r) (hat : r = some g ∨ g = w.heap.size) : m.Off B (some g) w' := h.cells fun gg j x e => by
  obtain ⟨h1, h2⟩ := wo_cell e
  have hlt := cell_lt h2
  rw [decide_eq_false_iff_not] at h1
  have hB : ¬ gg ≤ B := fun e => h1 (.inl e)
  have hr : ¬ some gg = r := fun e => h1 (.inr e)
  refine wo_up ?_ (by rw [World.cell?_of_block (a := ⟨gg, j, none⟩) (hg.block gg hlt hr)]; exact h2)
  rw [decide_eq_false_iff_not]
  rintro (e2 | e2)
  · exact hB e2
  · rcases hat with e3 | e3
    · rw [e3] at hr; exact hr e2
    · injection e2 with e2; omega
theorem M.Off.set {B i : Nat} {r : Option Nat} {w : World} {m : M} {v : Value} (h : m.Off B r w) : m.Off B r (w.setCell ⟨B, i, none⟩ v) := h.cells fun gg j x e => by
  obtain ⟨h1, h2⟩ := wo_cell e
  refine wo_up h1 ?_
  rw [decide_eq_false_iff_not] at h1
  rw [World.cell?_of_block (a := ⟨gg, j, none⟩) (Below.heap_setCell w ⟨B, i, none⟩ v gg (fun e => h1 (.inl (Nat.le_of_eq e))))]
  exact h2
theorem M.Off.new {B N : Nat} {g : Option Nat} {w : World} {m : M} (h : m.Off B g w) (hN : N ≤ B + 1) : m.New N w := h.cells fun gg j x e => by
  obtain ⟨h1, h2⟩ := wo_cell e
  rw [decide_eq_false_iff_not] at h1
  exact wo_up (by rw [decide_eq_false_iff_not]; intro h3; exact h1 (.inl (by omega))) h2
/-- A row that lies from N on. -/
theorem row_new {N : Nat} {w : World} {a : Option Addr} {cs : List Value} (h : RowAt w a cs) (hN : ∀ ad, a = some ad → N ≤ ad.block) : RowAt (Wo (fun k => decide (k < N)) w) a cs := by
  rcases h with h | ⟨g, e, h⟩
  · exact .inl h
  · refine .inr ⟨g, e, fun j x hj => wo_up ?_ (h j x hj)⟩
    have := hN _ e
    simp at this ⊢
    omega
theorem M.New.set {N b i : Nat} {w : World} {m : M} {v : Value} (h : m.New N w) (hb : b < N) : m.New N (w.setCell ⟨b, i, none⟩ v) := h.cells fun gg j x e => by
  obtain ⟨h1, h2⟩ := wo_cell e
  refine wo_up h1 ?_
  simp at h1
  rw [World.cell?_of_block (a := ⟨gg, j, none⟩) (Below.heap_setCell w ⟨b, i, none⟩ v gg (fun e => by dsimp only at e; omega))]
  exact h2
end Go.Proofs.YthhdadfnkdjmkaaGreatDoor.v
namespace Go.Proofs.YthhdadfnkdjmkaaGreatDoor.v
open Go.ChangeShapes Go.WideShapes Go.ChangeAt Go.RowKit
attribute [local go_sem ↓] Go.wp_at_zero Go.wp_at_succ
theorem info33s : (Tryz.prog.info? 36).map (fun i => (i.zero.map (fun z => z.cells.size), i.size, i.bytes)) = some (some 6, 6, 88) := by kernel_rfl
theorem info_six {T : TypeId} (h : (Tryz.prog.info? T).map (fun i => (i.zero.map (fun z => z.cells.size), i.size, i.bytes)) = some (some 6, 6, 88)) : ∃ (i : TypeInfo) (z : Value), Tryz.prog.info? T = some i ∧ i.zero = some z ∧ z.cells.size = 6 ∧ i.size = 6 ∧ i.bytes = 88 := by
  obtain ⟨i, hi, hz⟩ := Option.map_eq_some_iff.1 h
  simp only [Prod.mk.injEq] at hz
  obtain ⟨h1, h2, h3⟩ := hz
  obtain ⟨z, hz1, hz2⟩ := Option.map_eq_some_iff.1 h1
  exact ⟨i, z, hi, hz1, hz2, h2, h3⟩
/-- What Of makes of a value. -/
def OfSays (m : M) : Prop := ∀ w, m.At w → Calls Tryz.prog 10 #[m.val] w fun e w' => (∃ z : M, e = .returned z.val ∧ z.New w.heap.size w' ∧ z.plain = m.plain) ∧ Fresh w w'
theorem wpOp_call2 {P : Program} {Q : Exit → Act → World → Prop} {ops : Array Oper} {i : Nat} {o : Oper} {K : Act → World → Prop} {b : Act} {w : World} {f : FuncId} {args : Array Value} (hi : ops[i]? = some o) (hg : o.guard = none) (hr : (execOp b.eval o).run P w = .ok (.enter f args) w)
    {R : Ending → World → Prop} (hc : Calls P f args w R) (h : ∀ e w', R e w' → ∃ v, e = .returned v ∧ K (b.put o.dst v) w') : wpOp P ops Q i K b w := by
  refine wpOp_of hi hg ?_
  unfold Oper.wp
  rw [hr, Oper.upon_enter]
  refine hc.mono ?_
  intro e w' he
  obtain ⟨v, rfl, hk⟩ := h e w' he
  exact hk

/-! ### lists -/
def opsOfL : Array Oper := #[{ dst := some 24, op := .fieldAddr 36 (.tmp 3) 4, type := 0, pos := "law.go:56", after := #[], guard := none }, { dst := some 25, op := .load 33 (.tmp 24), type := 33, pos := "law.go:56", after := #[{ on := 0, ground := .data }], guard := none }, { dst := some 26, op := .load 27 (.tmp 5), type := 27, pos := "law.go:56", after := #[], guard := none }, { dst := some 27, op := .call { callee := .value (.func 10), args := #[.tmp 26], argTypes := #[27] }, type := 36, pos := "law.go:56", after := #[{ on := 2, ground := .data }], guard := none }, { dst := some 28, op := .buildSlice 33 1 #[(0, .tmp 27)], type := 33, pos := "law.go:56", after := #[{ on := 3, ground := .data }], guard := none }, { dst := some 29, op := .call { callee := .builtin .append, args := #[.tmp 25, .tmp 28], argTypes := #[33, 33] }, type := 33, pos := "law.go:56", after := #[{ on := 1, ground := .data }, { on := 4, ground := .data }, { on := 3, ground := .chain }], guard := none }, { dst := some 30, op := .fieldAddr 36 (.tmp 3) 4, type := 0, pos := "law.go:56", after := #[{ on := 0, ground := .phase }, { on := 1, ground := .phase }, { on := 2, ground := .phase }, { on := 3, ground := .phase }, { on := 4, ground := .phase }, { on := 5, ground := .phase }], guard := none }, { dst := none, op := .store 33 (.tmp 30) (.tmp 29), type := 0, pos := "law.go:56", after := #[{ on := 6, ground := .data }, { on := 5, ground := .data }, { on := 5, ground := .chain }, { on := 0, ground := .phase }, { on := 1, ground := .phase }, { on := 2, ground := .phase }, { on := 3, ground := .phase }, { on := 4, ground := .phase }, { on := 5, ground := .phase }], guard := none }]
def oOfL_0 : Oper := { dst := some 24, op := .fieldAddr 36 (.tmp 3) 4, type := 0, pos := "law.go:56", after := #[], guard := none }
def oOfL_1 : Oper := { dst := some 25, op := .load 33 (.tmp 24), type := 33, pos := "law.go:56", after := #[{ on := 0, ground := .data }], guard := none }
def oOfL_2 : Oper := { dst := some 26, op := .load 27 (.tmp 5), type := 27, pos := "law.go:56", after := #[], guard := none }
def oOfL_3 : Oper := { dst := some 27, op := .call { callee := .value (.func 10), args := #[.tmp 26], argTypes := #[27] }, type := 36, pos := "law.go:56", after := #[{ on := 2, ground := .data }], guard := none }
def oOfL_4 : Oper := { dst := some 28, op := .buildSlice 33 1 #[(0, .tmp 27)], type := 33, pos := "law.go:56", after := #[{ on := 3, ground := .data }], guard := none }
def oOfL_5 : Oper := { dst := some 29, op := .call { callee := .builtin .append, args := #[.tmp 25, .tmp 28], argTypes := #[33, 33] }, type := 33, pos := "law.go:56", after := #[{ on := 1, ground := .data }, { on := 4, ground := .data }, { on := 3, ground := .chain }], guard := none }
def oOfL_6 : Oper := { dst := some 30, op := .fieldAddr 36 (.tmp 3) 4, type := 0, pos := "law.go:56", after := #[{ on := 0, ground := .phase }, { on := 1, ground := .phase }, { on := 2, ground := .phase }, { on := 3, ground := .phase }, { on := 4, ground := .phase }, { on := 5, ground := .phase }], guard := none }
def oOfL_7 : Oper := { dst := none, op := .store 33 (.tmp 30) (.tmp 29), type := 0, pos := "law.go:56", after := #[{ on := 6, ground := .data }, { on := 5, ground := .data }, { on := 5, ground := .chain }, { on := 0, ground := .phase }, { on := 1, ground := .phase }, { on := 2, ground := .phase }, { on := 3, ground := .phase }, { on := 4, ground := .phase }, { on := 5, ground := .phase }], guard := none }
def tailOfL (k : Nat) : Bool := k == 6 || k == 7
/-- What grows: the box, and the row. -/
structure LxIs (w0 w : World) (B N : Nat) (k : Int) (f : Bool) (nn : Int) (s : ByteArray) (j : Nat) (la : Option Addr) (lc : Nat) (xs : List (M)) : Prop where
  low : B < N
  bx : w.heap[B]? = some (.cells #[.int .i64 k, .bool f, .int .i64 nn, .string s, .slice la j lc, .slice none 0 0] 36 (0, 0))
  rx : w.ownsRow N 36 6 (.slice la j lc) j (mcells xs)
  ax : ∀ x ∈ xs, x.Off B (Value.slice la j lc).ownBlock w
  le : N ≤ w.heap.size
  base : w0.heap.size ≤ B
  fresh : Fresh w0 w
theorem LxIs.move {w0 w w' : World} {B N : Nat} {k : Int} {f : Bool} {nn : Int} {s : ByteArray} {j : Nat} {la : Option Addr} {lc : Nat} {xs : List (M)} (h : LxIs w0 w B N k f nn s j la lc xs) (g : Fresh w w') : LxIs w0 w' B N k f nn s j la lc xs :=
  ⟨h.low, g.at h.bx, owns_move h.rx g, fun x hx => (h.ax x hx).move g, Nat.le_trans h.le g.size, h.base, h.fresh.trans g⟩
structure Lx where
  w0 : World
  B : Nat
  N : Nat
  b : Nat
  k : Int
  f : Bool
  nn : Int
  s : ByteArray
  yk : Int
  yf : Bool
  yn : Int
  ys : ByteArray
  yla : Option Addr
  yln : Nat
  ylc : Nat
  yka : Option Addr
  ykn : Nat
  ykc : Nat
  y : M
  la : Option Addr
  j : Nat
  lc : Nat
  xs : List (M)
def Lx.cs (c : Lx) : Array Value := #[.int .i64 c.yk, .bool c.yf, .int .i64 c.yn, .string c.ys, .slice c.yla c.yln c.ylc, .slice c.yka c.ykn c.ykc]
def Lx.S (c : Lx) (u : World) : Prop := u.cell? ⟨c.B, 4, none⟩ = some (.slice c.la c.j c.lc) ∧ u.cell? ⟨c.b, 0, none⟩ = some (.int .i64 c.yk) ∧ u.cell? ⟨c.b, 1, none⟩ = some (.bool c.yf) ∧ u.cell? ⟨c.b, 2, none⟩ = some (.int .i64 c.yn) ∧ u.cell? ⟨c.b, 3, none⟩ = some (.string c.ys) ∧ u.cell? ⟨c.b, 4, none⟩ = some (.slice c.yla c.yln c.ylc) ∧ u.cell? ⟨c.b, 5, none⟩ = some (.slice c.yka c.ykn c.ykc)
/-- What holds ahead of the append. -/
structure Lx.W (c : Lx) (u : World) : Prop where
  is : LxIs c.w0 u c.B c.N c.k c.f c.nn c.s c.j c.la c.lc c.xs
  bw : u.heap[c.b]? = some (.cells c.cs 27 (0, 0))
theorem Lx.W.move {c : Lx} {u u' : World} (h : c.W u) (g : Fresh u u') : c.W u' := ⟨h.is.move g, g.at h.bw⟩
theorem Lx.W.S {c : Lx} {u : World} (h : c.W u) : c.S u := ⟨cell_of_at h.is.bx rfl, cell_of_at h.bw rfl, cell_of_at h.bw rfl, cell_of_at h.bw rfl, cell_of_at h.bw rfl, cell_of_at h.bw rfl, cell_of_at h.bw rfl⟩
structure Lx.At (c : Lx) (a : Act) : Prop where
  size : a.tmps.size = 52
  e3 : a.eval (.tmp 3) = .pointer (some ⟨c.B, 0, none⟩)
  e25 : a.eval (.tmp 25) = .slice c.la c.j c.lc
  e26 : a.eval (.tmp 26) = .agg c.cs
def Lx.loaded (c : Lx) (a : Act) : Act := (((a.put (some 24) (.pointer (some ⟨c.B, 4, none⟩))).put (some 25) (.slice c.la c.j c.lc)).put (some 26) (.agg c.cs))
variable {c : Lx} {a : Act} {Q : Exit → Act → World → Prop}
set_option maxRecDepth 100000 in
set_option maxHeartbeats 1000000 in
theorem stepsOfL (ha : c.At a) (w : World) (hW : c.W w) (hv : c.y.val = .agg c.cs) (hy : c.y.At w) (ih : OfSays c.y) (hj : c.j ≤ 1000000)
    (hQ : ∀ (z : M) (zk : Int) (zf : Bool) (zn : Int) (zs : ByteArray) (zla : Option Addr) (zlc : Nat) (zl : List M) (zka : Option Addr) (zkc : Nat) (zks : List (ByteArray × M)) (k1 g cap : Nat) (u' : World), z = (M.mk zk zf zn zs zla zlc zl zka zkc zks) → z.plain = c.y.plain → LxIs c.w0 u' c.B c.N c.k c.f c.nn c.s (c.j + 1) (some ⟨g, 0, none⟩) cap (c.xs ++ [z]) → Q .normal ((((a.put (some 27) (.agg #[.int .i64 zk, .bool zf, .int .i64 zn, .string zs, .slice zla zl.length zlc, .slice zka zks.length zkc])).put (some 28) (.slice (some ⟨k1, 0, none⟩) 1 1)).put (some 29) (.slice (some ⟨g, 0, none⟩) (c.j + 1) cap)).put (some 30) (.pointer (some ⟨c.B, 4, none⟩))) u') :
    Any2 Tryz.prog .any opsOfL Q c.S tailOfL 5 #[true, true, true, false, false, false, false, false] a w := by
  obtain ⟨i0, z0, hi, hz0, hzc, hz1, hz2⟩ := info_six info33s
  have g1 := ev_get (t := 26) (a := a) (v := .agg c.cs) (ha.e26)
  have hr : ∀ b : Act, b.tmps[26]?.getD undef = .agg c.cs → (execOp b.eval oOfL_3).run Tryz.prog w = .ok (.enter 10 #[.agg c.cs]) w := fun b g1 => by
    simp [execOp, oOfL_3, g1, go_sem]
  have hc := ih w hy
  rw [hv] at hc
  refine Any2.one (i := 3) (by kernel_rfl) (wpOp_call2 (o := oOfL_3) (by rfl) rfl (hr _ g1) hc ?_)
  clear g1 hr hc
  rintro e w1 ⟨⟨z, rfl, hza, hzp⟩, hf⟩
  refine ⟨_, rfl, ?_⟩
  have hW1 := hW.move hf
  have hlaN : ∀ k, (Value.slice c.la c.j c.lc).ownBlock = some k → k < w.heap.size := fun k e => (World.ownsRow.lt hW.is.rx k e).2
  have hzo : M.Off c.B (Value.slice c.la c.j c.lc).ownBlock w1 z := hza.off (lt_of_at hW.is.bx) hlaN
  clear hf hza
  refine ⟨fun _ => hW1.S, ?_⟩
  have HQ := hQ z
  obtain ⟨zk, zf, zn, zs, zla, zlc, zl, zka, zkc, zks⟩ := z
  have HQ2 := HQ zk zf zn zs zla zlc zl zka zkc zks
  clear HQ hQ
  show Any2 Tryz.prog .any opsOfL Q c.S tailOfL _ _ (a.put (some 27) (.agg #[.int .i64 zk, .bool zf, .int .i64 zn, .string zs, .slice zla zl.length zlc, .slice zka zks.length zkc])) w1
  have g0 := ev_get (t := 27) (a := (a.put (some 27) (.agg #[.int .i64 zk, .bool zf, .int .i64 zn, .string zs, .slice zla zl.length zlc, .slice zka zks.length zkc]))) (v := .agg #[.int .i64 zk, .bool zf, .int .i64 zn, .string zs, .slice zla zl.length zlc, .slice zka zks.length zkc]) (by exact ev_same (by rw [ha.size]; decide))
  have hr : ∀ b : Act, b.tmps[27]?.getD undef = .agg #[.int .i64 zk, .bool zf, .int .i64 zn, .string zs, .slice zla zl.length zlc, .slice zka zks.length zkc] → (execOp b.eval oOfL_4).run Tryz.prog w1 = .ok (.value (.slice (some ⟨w1.heap.size, 0, none⟩) 1 1)) (w1.alloc (.cells #[.int .i64 zk, .bool zf, .int .i64 zn, .string zs, .slice zla zl.length zlc, .slice zka zks.length zkc] 36)) := fun b g0 => by
    simp [execOp, oOfL_4, g0, go_sem]
  have hal := (Fresh.refl w1).alloc (.cells #[.int .i64 zk, .bool zf, .int .i64 zn, .string zs, .slice zla zl.length zlc, .slice zka zks.length zkc] 36)
  have hW2 := hW1.move hal
  have hza2 := hzo.move hal
  have hk : (w1.alloc (.cells #[.int .i64 zk, .bool zf, .int .i64 zn, .string zs, .slice zla zl.length zlc, .slice zka zks.length zkc] 36)).heap[w1.heap.size]? = some (.cells #[.int .i64 zk, .bool zf, .int .i64 zn, .string zs, .slice zla zl.length zlc, .slice zka zks.length zkc] 36 (0, 0)) := at_new w1 _
  refine Any2.one (i := 4) (by kernel_rfl) (wpOp_run (o := oOfL_4) (by rfl) rfl (hr _ g0) ⟨(fun _ => hW2.S), ?_⟩)
  clear hr g0 hal hzo
  show Any2 Tryz.prog .any opsOfL Q c.S tailOfL _ _ ((a.put (some 27) (.agg #[.int .i64 zk, .bool zf, .int .i64 zn, .string zs, .slice zla zl.length zlc, .slice zka zks.length zkc])).put (some 28) (.slice (some ⟨w1.heap.size, 0, none⟩) 1 1)) (w1.alloc (.cells #[.int .i64 zk, .bool zf, .int .i64 zn, .string zs, .slice zla zl.length zlc, .slice zka zks.length zkc] 36))
  generalize w1.alloc (.cells #[.int .i64 zk, .bool zf, .int .i64 zn, .string zs, .slice zla zl.length zlc, .slice zka zks.length zkc] 36) = w2 at *
  generalize w1.heap.size = k1 at *
  have e0 : ((a.put (some 27) (.agg #[.int .i64 zk, .bool zf, .int .i64 zn, .string zs, .slice zla zl.length zlc, .slice zka zks.length zkc])).put (some 28) (.slice (some ⟨k1, 0, none⟩) 1 1)).eval (.tmp 25) = .slice c.la c.j c.lc := by rw [ev_ne (by decide), ev_ne (by decide)]; exact ha.e25
  have e1 : ((a.put (some 27) (.agg #[.int .i64 zk, .bool zf, .int .i64 zn, .string zs, .slice zla zl.length zlc, .slice zka zks.length zkc])).put (some 28) (.slice (some ⟨k1, 0, none⟩) 1 1)).eval (.tmp 28) = .slice (some ⟨k1, 0, none⟩) 1 1 := by exact ev_same (by rw [put_size, ha.size]; decide)
  refine Any2.one (i := 5) (by kernel_rfl) (wpOp_of (o := oOfL_5) (by rfl) rfl ?_)
  refine wp_append_lies (P := Tryz.prog) w2 (.tmp 25) (.tmp 28) 33 (by rfl) c.N 36 i0 z0 6 88 Tryz.underlying33 hi hz0 hz1 hz2 hzc (by decide) (.slice c.la c.j c.lc) c.j (mcells c.xs) e0 hW2.is.rx ⟨k1, 0, none⟩ 1 1 #[.int .i64 zk, .bool zf, .int .i64 zn, .string zs, .slice zla zl.length zlc, .slice zka zks.length zkc].toList e1 (by rfl) (World.news_of_block hk) (fun v hv => by
      simp only [List.mem_cons, List.not_mem_nil, or_false] at hv
      rcases hv with rfl | rfl | rfl | rfl | rfl | rfl <;> rfl) (by decide) (by unfold maxLen; omega) (by omega) hW2.is.le w2.heap.size rfl ?_
  clear e0 e1
  intro g cap w3 hown hgrow hat _
  have hne : ∀ ad : Addr, c.la = some ad → ad.block ≠ c.B := fun ad e => by have := (own_type hW2.is.rx ad e).1; have h2 := hW2.is.low; omega
  have hbx := grown_at hgrow hW2.is.bx hne
  have hfr : Fresh c.w0 w3 := hW2.is.fresh.grown hgrow (fun k e => by
    obtain ⟨ad, e1, e2⟩ := own_block e
    have h1 := (own_type hW2.is.rx ad e1).1
    have h2 := hW2.is.low
    have h3 := hW2.is.base
    omega)
  have hbw3 : w3.heap[c.b]? = _ := kept_other hW2.is.rx hgrow hW2.bw (by decide)
  have hx5 := cell_of_at hbx (i := 4) rfl
  have fx := (box_frozen hbx).1
  have hlt := lt_of_at hbx
  have hsz3 := hgrow.size
  have hgw : c.N ≤ g := by have := (World.ownsRow.lt hown g rfl).1; exact this
  have hIS : LxIs c.w0 (w3.setCell ⟨c.B, 4, none⟩ (.slice (some ⟨g, 0, none⟩) (c.j + 1) cap)) c.B c.N c.k c.f c.nn c.s (c.j + 1) (some ⟨g, 0, none⟩) cap (c.xs ++ [(M.mk zk zf zn zs zla zlc zl zka zkc zks)]) := by
    have gs := grown_set w3 c.B 4 (.slice (some ⟨g, 0, none⟩) (c.j + 1) cap)
    refine ⟨hW2.is.low, ?_, ?_, ?_, ?_, hW2.is.base, ?_⟩
    · simp [World.setCell, Array.getElem?_modify, hbx]
    · refine kept_row (xs := mcells (c.xs ++ [(M.mk zk zf zn zs zla zlc zl zka zkc zks)])) (by rw [mcells_snoc]; exact hown) gs (fun ad e e2 => ?_)
      cases e
      injection e2 with e2
      have := hW2.is.low
      dsimp only at e2
      omega
    · intro x hx
      rcases List.mem_append.1 hx with hx | hx
      · exact ((hW2.is.ax x hx).grown hgrow hat).set
      · rw [List.mem_singleton] at hx
        subst hx
        exact (hza2.grown hgrow hat).set
    · have : (w3.setCell ⟨c.B, 4, none⟩ (.slice (some ⟨g, 0, none⟩) (c.j + 1) cap)).heap.size = w3.heap.size := by simp [World.setCell]
      have := hW2.is.le
      omega
    · exact hfr.setCell hW2.is.base _
  refine ⟨(fun _ => ⟨cell_of_at hbx rfl, cell_of_at hbw3 rfl, cell_of_at hbw3 rfl, cell_of_at hbw3 rfl, cell_of_at hbw3 rfl, cell_of_at hbw3 rfl, cell_of_at hbw3 rfl⟩), ?_⟩
  show Any2 Tryz.prog .any opsOfL Q c.S tailOfL _ _ (((a.put (some 27) (.agg #[.int .i64 zk, .bool zf, .int .i64 zn, .string zs, .slice zla zl.length zlc, .slice zka zks.length zkc])).put (some 28) (.slice (some ⟨k1, 0, none⟩) 1 1)).put (some 29) (.slice (some ⟨g, 0, none⟩) (c.j + 1) cap)) w3
  have g0 := ev_get (t := 3) (a := (((a.put (some 27) (.agg #[.int .i64 zk, .bool zf, .int .i64 zn, .string zs, .slice zla zl.length zlc, .slice zka zks.length zkc])).put (some 28) (.slice (some ⟨k1, 0, none⟩) 1 1)).put (some 29) (.slice (some ⟨g, 0, none⟩) (c.j + 1) cap))) (v := .pointer (some ⟨c.B, 0, none⟩)) (by rw [ev_ne (by decide), ev_ne (by decide), ev_ne (by decide)]; exact ha.e3)
  have hr : ∀ b : Act, b.tmps[3]?.getD undef = .pointer (some ⟨c.B, 0, none⟩) → (execOp b.eval oOfL_6).run Tryz.prog w3 = .ok (.value (.pointer (some ⟨c.B, 4, none⟩))) w3 := fun b g0 => by
    simp [execOp, oOfL_6, g0, go_sem]
  refine Any2.one (i := 6) (by kernel_rfl) (wpOp_run (o := oOfL_6) (by rfl) rfl (hr _ g0) ⟨(fun h => by cases h), ?_⟩)
  clear hr g0
  show Any2 Tryz.prog .any opsOfL Q c.S tailOfL _ _ ((((a.put (some 27) (.agg #[.int .i64 zk, .bool zf, .int .i64 zn, .string zs, .slice zla zl.length zlc, .slice zka zks.length zkc])).put (some 28) (.slice (some ⟨k1, 0, none⟩) 1 1)).put (some 29) (.slice (some ⟨g, 0, none⟩) (c.j + 1) cap)).put (some 30) (.pointer (some ⟨c.B, 4, none⟩))) w3
  have g0 := ev_get (t := 30) (a := ((((a.put (some 27) (.agg #[.int .i64 zk, .bool zf, .int .i64 zn, .string zs, .slice zla zl.length zlc, .slice zka zks.length zkc])).put (some 28) (.slice (some ⟨k1, 0, none⟩) 1 1)).put (some 29) (.slice (some ⟨g, 0, none⟩) (c.j + 1) cap)).put (some 30) (.pointer (some ⟨c.B, 4, none⟩)))) (v := .pointer (some ⟨c.B, 4, none⟩)) (by exact ev_same (by rw [put_size, put_size, put_size, ha.size]; decide))
  have g1 := ev_get (t := 29) (a := ((((a.put (some 27) (.agg #[.int .i64 zk, .bool zf, .int .i64 zn, .string zs, .slice zla zl.length zlc, .slice zka zks.length zkc])).put (some 28) (.slice (some ⟨k1, 0, none⟩) 1 1)).put (some 29) (.slice (some ⟨g, 0, none⟩) (c.j + 1) cap)).put (some 30) (.pointer (some ⟨c.B, 4, none⟩)))) (v := .slice (some ⟨g, 0, none⟩) (c.j + 1) cap) (by rw [ev_ne (by decide)]; exact ev_same (by rw [put_size, put_size, ha.size]; decide))
  have hr : ∀ b : Act, b.tmps[30]?.getD undef = .pointer (some ⟨c.B, 4, none⟩) → b.tmps[29]?.getD undef = .slice (some ⟨g, 0, none⟩) (c.j + 1) cap → (execOp b.eval oOfL_7).run Tryz.prog w3 = .ok .skip (w3.setCell ⟨c.B, 4, none⟩ (.slice (some ⟨g, 0, none⟩) (c.j + 1) cap)) := fun b g0 g1 => by
    simp [execOp, oOfL_7, g0, g1, go_sem, hx5, fx]
  refine Any2.one (i := 7) (by kernel_rfl) (wpOp_skip (o := oOfL_7) (by rfl) rfl rfl (hr _ g0 g1) ⟨(fun h => by cases h), ?_⟩)
  exact Any2.end (by kernel_rfl) (HQ2 k1 g cap _ rfl hzp hIS)
set_option maxRecDepth 100000 in
set_option maxHeartbeats 1000000 in
theorem regionOfL (w : World) (hs : a.tmps.size = 52) (e3 : a.eval (.tmp 3) = .pointer (some ⟨c.B, 0, none⟩)) (e5 : a.eval (.tmp 5) = .pointer (some ⟨c.b, 0, none⟩)) (hW0 : c.W w) (hv : c.y.val = .agg c.cs) (hy : c.y.At w) (ih : OfSays c.y) (hj : c.j ≤ 1000000) (hpan : ∀ p (d : Nat) v (b : Act) u, Q (.panic p) (b.put (some d) v) u → Q (.panic p) b u)
    (hQ : ∀ (z : M) (zk : Int) (zf : Bool) (zn : Int) (zs : ByteArray) (zla : Option Addr) (zlc : Nat) (zl : List M) (zka : Option Addr) (zkc : Nat) (zks : List (ByteArray × M)) (k1 g cap : Nat) (u' : World), z = (M.mk zk zf zn zs zla zlc zl zka zkc zks) → z.plain = c.y.plain → LxIs c.w0 u' c.B c.N c.k c.f c.nn c.s (c.j + 1) (some ⟨g, 0, none⟩) cap (c.xs ++ [z]) → Q .normal (((((c.loaded a).put (some 27) (.agg #[.int .i64 zk, .bool zf, .int .i64 zn, .string zs, .slice zla zl.length zlc, .slice zka zks.length zkc])).put (some 28) (.slice (some ⟨k1, 0, none⟩) 1 1)).put (some 29) (.slice (some ⟨g, 0, none⟩) (c.j + 1) cap)).put (some 30) (.pointer (some ⟨c.B, 4, none⟩))) u') : (Code.region 5 opsOfL true).wp Tryz.prog Q a w := by
  have hW := hW0.move (Fresh.refl w).drew
  have hS := hW.S
  refine Any2.start (S := c.S) (tail := tailOfL) (by kernel_rfl) ?_
  have hsz : opsOfL.size = 7 + 1 := rfl
  rw [hsz]
  refine Any2.take (i := 0) (oi := oOfL_0) (v := .pointer (some ⟨c.B, 4, none⟩)) (by rfl) (by kernel_rfl) (by kernel_rfl) (by kernel_rfl) (by rfl) (by kernel_rfl) (by kernel_rfl) (fun p b u h => hpan p _ _ b u h) hS (.inl ⟨by rfl, fun u hu => ?_⟩) ?_
  · have g := ev_get (t := 3) (a := a) (v := .pointer (some ⟨c.B, 0, none⟩)) (e3)
    simp [execOp, oOfL_0, g, go_sem]
  show Any2 Tryz.prog .any opsOfL Q c.S tailOfL _ _ (a.put (some 24) (.pointer (some ⟨c.B, 4, none⟩))) w.drew
  refine Any2.take (i := 1) (oi := oOfL_1) (v := .slice c.la c.j c.lc) (by rfl) (by kernel_rfl) (by kernel_rfl) (by kernel_rfl) (by rfl) (by kernel_rfl) (by kernel_rfl) (fun p b u h => hpan p _ _ b u h) hS (.inl ⟨by rfl, fun u hu => ?_⟩) ?_
  · have g := ev_get (t := 24) (a := (a.put (some 24) (.pointer (some ⟨c.B, 4, none⟩)))) (v := .pointer (some ⟨c.B, 4, none⟩)) (by exact ev_same (by rw [hs]; decide))
    obtain ⟨h1, k0, k1, k2, k3, k4, k5⟩ := hu
    generalize (a.put (some 24) (.pointer (some ⟨c.B, 4, none⟩))) = b at *
    simp [execOp, oOfL_1, g, go_sem, h1]
  show Any2 Tryz.prog .any opsOfL Q c.S tailOfL _ _ ((a.put (some 24) (.pointer (some ⟨c.B, 4, none⟩))).put (some 25) (.slice c.la c.j c.lc)) w.drew
  refine Any2.take (i := 2) (oi := oOfL_2) (v := .agg c.cs) (by rfl) (by kernel_rfl) (by kernel_rfl) (by kernel_rfl) (by rfl) (by kernel_rfl) (by kernel_rfl) (fun p b u h => hpan p _ _ b u h) hS (.inl ⟨by rfl, fun u hu => ?_⟩) ?_
  · have g := ev_get (t := 5) (a := ((a.put (some 24) (.pointer (some ⟨c.B, 4, none⟩))).put (some 25) (.slice c.la c.j c.lc))) (v := .pointer (some ⟨c.b, 0, none⟩)) (by rw [ev_ne (by decide), ev_ne (by decide)]; exact e5)
    obtain ⟨h1, k0, k1, k2, k3, k4, k5⟩ := hu
    generalize ((a.put (some 24) (.pointer (some ⟨c.B, 4, none⟩))).put (some 25) (.slice c.la c.j c.lc)) = b at *
    simp [execOp, oOfL_2, g, go_sem, k0, k1, k2, k3, k4, k5, Lx.cs]
  show Any2 Tryz.prog .any opsOfL Q c.S tailOfL _ _ (((a.put (some 24) (.pointer (some ⟨c.B, 4, none⟩))).put (some 25) (.slice c.la c.j c.lc)).put (some 26) (.agg c.cs)) w.drew
  have hL : Lx.At c (c.loaded a) := by
    refine ⟨?_, ?_, ?_, ?_⟩
    · simp only [Lx.loaded, put_size, hs]
    · rw [Lx.loaded]; exact (by rw [ev_ne (by decide), ev_ne (by decide), ev_ne (by decide)]; exact e3)
    · rw [Lx.loaded]; exact (by rw [ev_ne (by decide)]; exact ev_same (by rw [put_size, hs]; decide))
    · rw [Lx.loaded]; exact (by exact ev_same (by rw [put_size, put_size, hs]; decide))
  exact (congrArg (fun D => Any2 Tryz.prog .any opsOfL Q c.S tailOfL 5 D (c.loaded a) w.drew) (show _ = #[true, true, true, false, false, false, false, false] by kernel_rfl)).mpr (stepsOfL hL w.drew hW hv (hy.move (Fresh.refl w).drew) ih hj hQ)
end Go.Proofs.YthhdadfnkdjmkaaGreatDoor.v
