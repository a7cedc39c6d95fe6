/-
  Two states turned into the document's, in whatever order Go takes it (printed by genreg3.py.txt 3).
  As KFlow: who waits for whom by bit masks, so that great regions are reckoned fast; the frame behind told slot by slot.
-/
import Derived.Test.YtldncgelghcjeaaGreatDoorCat27
import Derived.OrdersHeld
import Derived.Laws.World
import Derived.Test.YtldncgelghcjeaaGreatDoorCat03
set_option linter.unusedSimpArgs false
set_option linter.unusedVariables false
namespace Go.Proofs.YtldncgelghcjeaaGreatDoor.K
open Go.ChangeShapes Go.WideShapes Go.ChangeAt Go.RowKit
set_option maxRecDepth 100000

def o3_0 : Oper := { dst := some 30, op := Go.Op.load 25 (Go.Operand.tmp 3), type := 25, pos := "law.go:44", after := #[], guard := none }
def o3_1 : Oper := { dst := some 31, op := Go.Op.call { callee := Go.Callee.value (Go.Operand.func 11), args := #[Go.Operand.tmp 30], argTypes := #[25] }, type := 30, pos := "law.go:44", after := #[{ on := 0, ground := Go.Ground.data }], guard := none }
def o3_2 : Oper := { dst := some 32, op := Go.Op.load 25 (Go.Operand.tmp 4), type := 25, pos := "law.go:44", after := #[], guard := none }
def o3_3 : Oper := { dst := some 33, op := Go.Op.call { callee := Go.Callee.value (Go.Operand.func 11), args := #[Go.Operand.tmp 32], argTypes := #[25] }, type := 30, pos := "law.go:44", after := #[{ on := 2, ground := Go.Ground.data }, { on := 1, ground := Go.Ground.chain }], guard := none }
def o3_4 : Oper := { dst := some 7, op := Go.Op.alloc 30, type := 0, pos := "law.go:44", after := #[], guard := none }
def o3_5 : Oper := { dst := some 8, op := Go.Op.alloc 30, type := 0, pos := "law.go:44", after := #[], guard := none }
def o3_6 : Oper := { dst := none, op := Go.Op.store 30 (Go.Operand.tmp 7) (Go.Operand.tmp 31), type := 0, pos := "law.go:44", after := #[{ on := 4, ground := Go.Ground.data }, { on := 1, ground := Go.Ground.data }, { on := 3, ground := Go.Ground.chain }, { on := 0, ground := Go.Ground.phase }, { on := 1, ground := Go.Ground.phase }, { on := 2, ground := Go.Ground.textOnly Go.Departure.lateStores }, { on := 3, ground := Go.Ground.textOnly Go.Departure.lateStoresUnsure }, { on := 4, ground := Go.Ground.phase }, { on := 5, ground := Go.Ground.phase }], guard := none }
def o3_7 : Oper := { dst := none, op := Go.Op.store 30 (Go.Operand.tmp 8) (Go.Operand.tmp 33), type := 0, pos := "law.go:44", after := #[{ on := 5, ground := Go.Ground.data }, { on := 3, ground := Go.Ground.data }, { on := 6, ground := Go.Ground.chain }, { on := 0, ground := Go.Ground.phase }, { on := 1, ground := Go.Ground.phase }, { on := 2, ground := Go.Ground.phase }, { on := 3, ground := Go.Ground.phase }, { on := 4, ground := Go.Ground.phase }, { on := 5, ground := Go.Ground.phase }, { on := 6, ground := Go.Ground.phase }], guard := none }
def ops3 : Array Oper := #[o3_0, o3_1, o3_2, o3_3, o3_4, o3_5, o3_6, o3_7]
theorem r3_done : ∀ d0 d1 d2 d3 d4 d5 d6 d7 : Bool, (Region.ready .any ops3 #[d0, d1, d2, d3, d4, d5, d6, d7]).isEmpty = true → (d0 && d1 && d2 && d3 && d4 && d5 && d6 && d7) = true := by decide +kernel
theorem r3_1 : ∀ d0 d1 d2 d3 d4 d5 d6 d7 : Bool, (Region.ready .any ops3 #[d0, d1, d2, d3, d4, d5, d6, d7]).contains 1 = true → (!d1 && d0) = true := by decide +kernel
theorem r3_3 : ∀ d0 d1 d2 d3 d4 d5 d6 d7 : Bool, (Region.ready .any ops3 #[d0, d1, d2, d3, d4, d5, d6, d7]).contains 3 = true → (!d3 && d2 && d1) = true := by decide +kernel
theorem r3_4 : ∀ d0 d1 d2 d3 d4 d5 d6 d7 : Bool, (Region.ready .any ops3 #[d0, d1, d2, d3, d4, d5, d6, d7]).contains 4 = true → (!d4) = true := by decide +kernel
theorem r3_5 : ∀ d0 d1 d2 d3 d4 d5 d6 d7 : Bool, (Region.ready .any ops3 #[d0, d1, d2, d3, d4, d5, d6, d7]).contains 5 = true → (!d5) = true := by decide +kernel
theorem r3_6 : ∀ d0 d1 d2 d3 d4 d5 d6 d7 : Bool, (Region.ready .any ops3 #[d0, d1, d2, d3, d4, d5, d6, d7]).contains 6 = true → (!d6 && d4 && d1 && d3) = true := by decide +kernel
theorem r3_7 : ∀ d0 d1 d2 d3 d4 d5 d6 d7 : Bool, (Region.ready .any ops3 #[d0, d1, d2, d3, d4, d5, d6, d7]).contains 7 = true → (!d7 && d5 && d3 && d6) = true := by decide +kernel
theorem r3_lt : ∀ d0 d1 d2 d3 d4 d5 d6 d7 : Bool, (Region.ready .any ops3 #[d0, d1, d2, d3, d4, d5, d6, d7]).all (fun k => decide (k < 8)) = true := by decide +kernel
abbrev zero3 : Obj := .cells #[.int .u64 0, .slice none 0 0] 30
/-- The two stores of a state into a box. -/
def set3 (W : World) (z : Nat) (p : SM3) : World := (W.setCell ⟨z, 0, none⟩ (.int .u64 p.seq)).setCell ⟨z, 1, none⟩ (.slice p.a p.l.length p.c)
theorem set3_box {W : World} {z : Nat} {x : SM3} (h : W.heap[z]? = some zero3) : (set3 W z x).heap[z]? = some (x.obj 30) := at_set (at_set h 0 _) 1 _
theorem set3_off {W : World} {z g : Nat} {x : SM3} {o : Obj} (h : W.heap[g]? = some o) (hne : g ≠ z) : (set3 W z x).heap[g]? = some o := at_off (at_off h hne _) hne _
theorem set3_own {W : World} {z B : Nat} {x y : SM3} (h : y.Own W B) (hz : W.heap[z]? = some zero3) : y.Own (set3 W z x) B :=
  own3_set (own3_set h hz 0 _) (at_set hz 0 _) 1 _
theorem set3_fresh {w W : World} {z : Nat} {x : SM3} (f : Fresh w W) (hz : w.heap.size ≤ z) : Fresh w (set3 W z x) := (f.setCell (p := ⟨z, 0, none⟩) hz _).setCell (p := ⟨z, 1, none⟩) hz _
/-- What holds between the operations. -/
structure IR3 (A0 : Act) (w0 : World) (p q : SM3) (b c : Nat) (d0 d1 d2 d3 d4 d5 d6 d7 : Bool) (a : Act) (W : World) (m n : SM3) (zx zy Bm Bn : Nat) : Prop where
  fs : a.tmps.size = 135
  fd : a.defers = []
  sm : ∀ t, t ≠ 30 → t ≠ 31 → t ≠ 32 → t ≠ 33 → t ≠ 7 → t ≠ 8 → a.eval (.tmp t) = A0.eval (.tmp t)
  e2 : a.eval (.tmp 3) = .pointer (some ⟨b, 0, none⟩)
  e3 : a.eval (.tmp 4) = .pointer (some ⟨c, 0, none⟩)
  g1 : W.heap[b]? = some (p.obj 25)
  g2 : W.heap[c]? = some (q.obj 25)
  fr : Fresh w0 W
  bz : b < w0.heap.size
  cz : c < w0.heap.size
  r0 : d0 = true → a.eval (.tmp 30) = p.val
  r1 : d1 = true → a.eval (.tmp 31) = m.val ∧ (m.seq = p.seq ∧ m.l = p.l) ∧ m.Own W Bm
  r2 : d2 = true → a.eval (.tmp 32) = q.val
  r3 : d3 = true → a.eval (.tmp 33) = n.val ∧ (n.seq = q.seq ∧ n.l = q.l) ∧ n.Own W Bn
  r4 : d4 = true → a.eval (.tmp 7) = .pointer (some ⟨zx, 0, none⟩) ∧ w0.heap.size ≤ zx ∧ (d6 = true → W.heap[zx]? = some (m.obj 30)) ∧ (d6 = false → W.heap[zx]? = some zero3)
  r5 : d5 = true → a.eval (.tmp 8) = .pointer (some ⟨zy, 0, none⟩) ∧ w0.heap.size ≤ zy ∧ (d7 = true → W.heap[zy]? = some (n.obj 30)) ∧ (d7 = false → W.heap[zy]? = some zero3)
  ne : d4 = true → d5 = true → zx ≠ zy
  l6 : d6 = true → d1 = true ∧ d4 = true
  l7 : d7 = true → d3 = true ∧ d5 = true ∧ d6 = true

theorem run3_0 {a : Act} {W : World} {b : Nat} {p : SM3} (e : a.eval (.tmp 3) = .pointer (some ⟨b, 0, none⟩)) (g : W.heap[b]? = some (p.obj 25)) : (execOp a.eval o3_0).run Tryz.prog W = .ok (.value p.val) W := by
  have c0 := cell_of_at g (i := 0) rfl
  have c1 := cell_of_at g (i := 1) rfl
  have e := ev_get e
  simp [execOp, o3_0, e, go_sem, c0, c1, SM3.val]
theorem run3_2 {a : Act} {W : World} {b : Nat} {p : SM3} (e : a.eval (.tmp 4) = .pointer (some ⟨b, 0, none⟩)) (g : W.heap[b]? = some (p.obj 25)) : (execOp a.eval o3_2).run Tryz.prog W = .ok (.value p.val) W := by
  have c0 := cell_of_at g (i := 0) rfl
  have c1 := cell_of_at g (i := 1) rfl
  have e := ev_get e
  simp [execOp, o3_2, e, go_sem, c0, c1, SM3.val]
theorem run3_1 {a : Act} {W : World} {v : Value} (e : a.eval (.tmp 30) = v) : (execOp a.eval o3_1).run Tryz.prog W = .ok (.enter 11 #[v]) W := by
  have e := ev_get e
  simp [execOp, o3_1, e, go_sem]
theorem run3_3 {a : Act} {W : World} {v : Value} (e : a.eval (.tmp 32) = v) : (execOp a.eval o3_3).run Tryz.prog W = .ok (.enter 11 #[v]) W := by
  have e := ev_get e
  simp [execOp, o3_3, e, go_sem]
theorem run3_4 {a : Act} {W : World} : (execOp a.eval o3_4).run Tryz.prog W = .ok (.value (.pointer (some ⟨W.heap.size, 0, none⟩))) (W.alloc zero3) := by
  simp [execOp, o3_4, go_sem]
theorem run3_5 {a : Act} {W : World} : (execOp a.eval o3_5).run Tryz.prog W = .ok (.value (.pointer (some ⟨W.heap.size, 0, none⟩))) (W.alloc zero3) := by
  simp [execOp, o3_5, go_sem]
theorem run3_6 {a : Act} {W : World} {z : Nat} {p : SM3} (e : a.eval (.tmp 7) = .pointer (some ⟨z, 0, none⟩)) (e' : a.eval (.tmp 31) = p.val) (g : W.heap[z]? = some zero3) : (execOp a.eval o3_6).run Tryz.prog W = .ok .skip (set3 W z p) := by
  have c0 := cell_of_at g (i := 0) rfl
  have c1 := cell_of_at g (i := 1) rfl
  have f0 := frozen_of_at g 0
  have f1 := frozen_of_at g 1
  have e := ev_get e
  have e' := ev_get e'
  simp [execOp, o3_6, e, e', go_sem, c0, c1, f0, f1, set3, SM3.val]
theorem run3_7 {a : Act} {W : World} {z : Nat} {p : SM3} (e : a.eval (.tmp 8) = .pointer (some ⟨z, 0, none⟩)) (e' : a.eval (.tmp 33) = p.val) (g : W.heap[z]? = some zero3) : (execOp a.eval o3_7).run Tryz.prog W = .ok .skip (set3 W z p) := by
  have c0 := cell_of_at g (i := 0) rfl
  have c1 := cell_of_at g (i := 1) rfl
  have f0 := frozen_of_at g 0
  have f1 := frozen_of_at g 1
  have e := ev_get e
  have e' := ev_get e'
  simp [execOp, o3_7, e, e', go_sem, c0, c1, f0, f1, set3, SM3.val]
def IC3 (A0 : Act) (w0 : World) (p q : SM3) (b c : Nat) (d0 d1 d2 d3 d4 d5 d6 d7 : Bool) (a : Act) (W : World) : Prop := ∃ m n zx zy Bm Bn, IR3 A0 w0 p q b c d0 d1 d2 d3 d4 d5 d6 d7 a W m n zx zy Bm Bn
section
variable {A0 : Act} {w0 : World} {p q : SM3} {b c : Nat} {Q : Exit → Act → World → Prop} {d0 d1 d2 d3 d4 d5 d6 d7 : Bool} {a : Act} {W : World}
theorem IR3.lt4 {m n : SM3} {zx zy Bm Bn : Nat} (h : IR3 A0 w0 p q b c d0 d1 d2 d3 d4 d5 d6 d7 a W m n zx zy Bm Bn) (t : d4 = true) : zx < W.heap.size := by
  rcases Bool.eq_false_or_eq_true d6 with u | u
  · exact lt_of_at ((h.r4 t).2.2.1 u)
  · exact lt_of_at ((h.r4 t).2.2.2 u)
theorem IR3.lt5 {m n : SM3} {zx zy Bm Bn : Nat} (h : IR3 A0 w0 p q b c d0 d1 d2 d3 d4 d5 d6 d7 a W m n zx zy Bm Bn) (t : d5 = true) : zy < W.heap.size := by
  rcases Bool.eq_false_or_eq_true d7 with u | u
  · exact lt_of_at ((h.r5 t).2.2.1 u)
  · exact lt_of_at ((h.r5 t).2.2.2 u)
theorem step3_0 (h : IC3 A0 w0 p q b c d0 d1 d2 d3 d4 d5 d6 d7 a W) (_ : 0 ∈ Region.ready .any ops3 #[d0, d1, d2, d3, d4, d5, d6, d7]) : wpOp Tryz.prog ops3 Q 0 (IC3 A0 w0 p q b c true d1 d2 d3 d4 d5 d6 d7) a W := by
  obtain ⟨m, n, zx, zy, Bm, Bn, h⟩ := h
  refine wpOp_run (o := o3_0) rfl rfl (run3_0 h.e2 h.g1) ⟨m, n, zx, zy, Bm, Bn, ?_⟩
  show IR3 A0 w0 p q b c true d1 d2 d3 d4 d5 d6 d7 (a.put (some 30) _) W m n zx zy Bm Bn
  exact { fs := by rw [put_size]; exact h.fs, fd := by rw [put_defers]; exact h.fd, sm := fun t n0 n1 n2 n3 n4 n5 => (ev_ne (d := 30) (Ne.symm n0)).trans (h.sm t n0 n1 n2 n3 n4 n5), e2 := (ev_ne (d := 30) (t := 3) (by decide)).trans h.e2, e3 := (ev_ne (d := 30) (t := 4) (by decide)).trans h.e3, g1 := h.g1, g2 := h.g2, fr := h.fr, bz := h.bz, cz := h.cz, r0 := fun _ => ev_same (by rw [h.fs]; decide), r1 := fun t => ⟨(ev_ne (d := 30) (t := 31) (by decide)).trans (h.r1 t).1, (h.r1 t).2.1, (h.r1 t).2.2⟩, r2 := fun t => (ev_ne (d := 30) (t := 32) (by decide)).trans (h.r2 t), r3 := fun t => ⟨(ev_ne (d := 30) (t := 33) (by decide)).trans (h.r3 t).1, (h.r3 t).2.1, (h.r3 t).2.2⟩, r4 := fun t => ⟨(ev_ne (d := 30) (t := 7) (by decide)).trans (h.r4 t).1, (h.r4 t).2.1, fun u => (h.r4 t).2.2.1 u, fun u => (h.r4 t).2.2.2 u⟩, r5 := fun t => ⟨(ev_ne (d := 30) (t := 8) (by decide)).trans (h.r5 t).1, (h.r5 t).2.1, fun u => (h.r5 t).2.2.1 u, fun u => (h.r5 t).2.2.2 u⟩, ne := h.ne, l6 := h.l6, l7 := h.l7 }
theorem step3_2 (h : IC3 A0 w0 p q b c d0 d1 d2 d3 d4 d5 d6 d7 a W) (_ : 2 ∈ Region.ready .any ops3 #[d0, d1, d2, d3, d4, d5, d6, d7]) : wpOp Tryz.prog ops3 Q 2 (IC3 A0 w0 p q b c d0 d1 true d3 d4 d5 d6 d7) a W := by
  obtain ⟨m, n, zx, zy, Bm, Bn, h⟩ := h
  refine wpOp_run (o := o3_2) rfl rfl (run3_2 h.e3 h.g2) ⟨m, n, zx, zy, Bm, Bn, ?_⟩
  show IR3 A0 w0 p q b c d0 d1 true d3 d4 d5 d6 d7 (a.put (some 32) _) W m n zx zy Bm Bn
  exact { fs := by rw [put_size]; exact h.fs, fd := by rw [put_defers]; exact h.fd, sm := fun t n0 n1 n2 n3 n4 n5 => (ev_ne (d := 32) (Ne.symm n2)).trans (h.sm t n0 n1 n2 n3 n4 n5), e2 := (ev_ne (d := 32) (t := 3) (by decide)).trans h.e2, e3 := (ev_ne (d := 32) (t := 4) (by decide)).trans h.e3, g1 := h.g1, g2 := h.g2, fr := h.fr, bz := h.bz, cz := h.cz, r0 := fun t => (ev_ne (d := 32) (t := 30) (by decide)).trans (h.r0 t), r1 := fun t => ⟨(ev_ne (d := 32) (t := 31) (by decide)).trans (h.r1 t).1, (h.r1 t).2.1, (h.r1 t).2.2⟩, r2 := fun _ => ev_same (by rw [h.fs]; decide), r3 := fun t => ⟨(ev_ne (d := 32) (t := 33) (by decide)).trans (h.r3 t).1, (h.r3 t).2.1, (h.r3 t).2.2⟩, r4 := fun t => ⟨(ev_ne (d := 32) (t := 7) (by decide)).trans (h.r4 t).1, (h.r4 t).2.1, fun u => (h.r4 t).2.2.1 u, fun u => (h.r4 t).2.2.2 u⟩, r5 := fun t => ⟨(ev_ne (d := 32) (t := 8) (by decide)).trans (h.r5 t).1, (h.r5 t).2.1, fun u => (h.r5 t).2.2.1 u, fun u => (h.r5 t).2.2.2 u⟩, ne := h.ne, l6 := h.l6, l7 := h.l7 }
theorem step3_1 (hp : p.At w0) (h : IC3 A0 w0 p q b c d0 d1 d2 d3 d4 d5 d6 d7 a W) (hr : 1 ∈ Region.ready .any ops3 #[d0, d1, d2, d3, d4, d5, d6, d7]) : wpOp Tryz.prog ops3 Q 1 (IC3 A0 w0 p q b c d0 true d2 d3 d4 d5 d6 d7) a W := by
  have hc := r3_1 d0 d1 d2 d3 d4 d5 d6 d7 (List.contains_iff_mem.2 hr)
  obtain ⟨m, n, zx, zy, Bm, Bn, h⟩ := h
  simp only [Bool.and_eq_true] at hc
  obtain ⟨c1, c0⟩ := hc
  have n6 : d6 = true → False := fun e => no_case c1 (h.l6 e).1
  refine wpOp_call2 (o := o3_1) rfl rfl (run3_1 (h.r0 c0)) (of3_own p w0 W hp h.fr) ?_
  rintro e V ⟨x, rfl, hx, ho, hf⟩
  refine ⟨_, rfl, x, n, zx, zy, W.heap.size, Bn, ?_⟩
  show IR3 A0 w0 p q b c d0 true d2 d3 d4 d5 d6 d7 (a.put (some 31) _) V x n zx zy W.heap.size Bn
  exact { fs := by rw [put_size]; exact h.fs, fd := by rw [put_defers]; exact h.fd, sm := fun t n0 n1 n2 n3 n4 n5 => (ev_ne (d := 31) (Ne.symm n1)).trans (h.sm t n0 n1 n2 n3 n4 n5), e2 := (ev_ne (d := 31) (t := 3) (by decide)).trans h.e2, e3 := (ev_ne (d := 31) (t := 4) (by decide)).trans h.e3, g1 := (Fresh.at hf (h.g1)), g2 := (Fresh.at hf (h.g2)), fr := h.fr.trans hf, bz := h.bz, cz := h.cz, r0 := fun t => (ev_ne (d := 31) (t := 30) (by decide)).trans (h.r0 t), r1 := fun _ => ⟨ev_same (by rw [h.fs]; decide), hx, ho⟩, r2 := fun t => (ev_ne (d := 31) (t := 32) (by decide)).trans (h.r2 t), r3 := fun t => ⟨(ev_ne (d := 31) (t := 33) (by decide)).trans (h.r3 t).1, (h.r3 t).2.1, (own3_fresh ((h.r3 t).2.2) hf)⟩, r4 := fun t => ⟨(ev_ne (d := 31) (t := 7) (by decide)).trans (h.r4 t).1, (h.r4 t).2.1, fun u => (n6 u).elim, fun u => (Fresh.at hf ((h.r4 t).2.2.2 u))⟩, r5 := fun t => ⟨(ev_ne (d := 31) (t := 8) (by decide)).trans (h.r5 t).1, (h.r5 t).2.1, fun u => (Fresh.at hf ((h.r5 t).2.2.1 u)), fun u => (Fresh.at hf ((h.r5 t).2.2.2 u))⟩, ne := h.ne, l6 := fun e => ⟨rfl, (h.l6 e).2⟩, l7 := h.l7 }
theorem step3_3 (hq : q.At w0) (h : IC3 A0 w0 p q b c d0 d1 d2 d3 d4 d5 d6 d7 a W) (hr : 3 ∈ Region.ready .any ops3 #[d0, d1, d2, d3, d4, d5, d6, d7]) : wpOp Tryz.prog ops3 Q 3 (IC3 A0 w0 p q b c d0 d1 d2 true d4 d5 d6 d7) a W := by
  have hc := r3_3 d0 d1 d2 d3 d4 d5 d6 d7 (List.contains_iff_mem.2 hr)
  obtain ⟨m, n, zx, zy, Bm, Bn, h⟩ := h
  simp only [Bool.and_eq_true] at hc
  obtain ⟨⟨c3, c2⟩, c1⟩ := hc
  have n7 : d7 = true → False := fun e => no_case c3 (h.l7 e).1
  refine wpOp_call2 (o := o3_3) rfl rfl (run3_3 (h.r2 c2)) (of3_own q w0 W hq h.fr) ?_
  rintro e V ⟨x, rfl, hx, ho, hf⟩
  refine ⟨_, rfl, m, x, zx, zy, Bm, W.heap.size, ?_⟩
  show IR3 A0 w0 p q b c d0 d1 d2 true d4 d5 d6 d7 (a.put (some 33) _) V m x zx zy Bm W.heap.size
  exact { fs := by rw [put_size]; exact h.fs, fd := by rw [put_defers]; exact h.fd, sm := fun t n0 n1 n2 n3 n4 n5 => (ev_ne (d := 33) (Ne.symm n3)).trans (h.sm t n0 n1 n2 n3 n4 n5), e2 := (ev_ne (d := 33) (t := 3) (by decide)).trans h.e2, e3 := (ev_ne (d := 33) (t := 4) (by decide)).trans h.e3, g1 := (Fresh.at hf (h.g1)), g2 := (Fresh.at hf (h.g2)), fr := h.fr.trans hf, bz := h.bz, cz := h.cz, r0 := fun t => (ev_ne (d := 33) (t := 30) (by decide)).trans (h.r0 t), r1 := fun t => ⟨(ev_ne (d := 33) (t := 31) (by decide)).trans (h.r1 t).1, (h.r1 t).2.1, (own3_fresh ((h.r1 t).2.2) hf)⟩, r2 := fun t => (ev_ne (d := 33) (t := 32) (by decide)).trans (h.r2 t), r3 := fun _ => ⟨ev_same (by rw [h.fs]; decide), hx, ho⟩, r4 := fun t => ⟨(ev_ne (d := 33) (t := 7) (by decide)).trans (h.r4 t).1, (h.r4 t).2.1, fun u => (Fresh.at hf ((h.r4 t).2.2.1 u)), fun u => (Fresh.at hf ((h.r4 t).2.2.2 u))⟩, r5 := fun t => ⟨(ev_ne (d := 33) (t := 8) (by decide)).trans (h.r5 t).1, (h.r5 t).2.1, fun u => (n7 u).elim, fun u => (Fresh.at hf ((h.r5 t).2.2.2 u))⟩, ne := h.ne, l6 := h.l6, l7 := fun e => ⟨rfl, (h.l7 e).2.1, (h.l7 e).2.2⟩ }
theorem step3_4 (h : IC3 A0 w0 p q b c d0 d1 d2 d3 d4 d5 d6 d7 a W) (hr : 4 ∈ Region.ready .any ops3 #[d0, d1, d2, d3, d4, d5, d6, d7]) : wpOp Tryz.prog ops3 Q 4 (IC3 A0 w0 p q b c d0 d1 d2 d3 true d5 d6 d7) a W := by
  have hc := r3_4 d0 d1 d2 d3 d4 d5 d6 d7 (List.contains_iff_mem.2 hr)
  obtain ⟨m, n, zx, zy, Bm, Bn, h⟩ := h
  have n6 : d6 = true → False := fun e => no_case hc (h.l6 e).2
  have hf : Fresh W (W.alloc zero3) := (Fresh.refl W).alloc zero3
  refine wpOp_run (o := o3_4) rfl rfl run3_4 ⟨m, n, W.heap.size, zy, Bm, Bn, ?_⟩
  show IR3 A0 w0 p q b c d0 d1 d2 d3 true d5 d6 d7 (a.put (some 7) _) (W.alloc zero3) m n W.heap.size zy Bm Bn
  exact { fs := by rw [put_size]; exact h.fs, fd := by rw [put_defers]; exact h.fd, sm := fun t n0 n1 n2 n3 n4 n5 => (ev_ne (d := 7) (Ne.symm n4)).trans (h.sm t n0 n1 n2 n3 n4 n5), e2 := (ev_ne (d := 7) (t := 3) (by decide)).trans h.e2, e3 := (ev_ne (d := 7) (t := 4) (by decide)).trans h.e3, g1 := (Fresh.at hf (h.g1)), g2 := (Fresh.at hf (h.g2)), fr := h.fr.trans hf, bz := h.bz, cz := h.cz, r0 := fun t => (ev_ne (d := 7) (t := 30) (by decide)).trans (h.r0 t), r1 := fun t => ⟨(ev_ne (d := 7) (t := 31) (by decide)).trans (h.r1 t).1, (h.r1 t).2.1, (own3_fresh ((h.r1 t).2.2) hf)⟩, r2 := fun t => (ev_ne (d := 7) (t := 32) (by decide)).trans (h.r2 t), r3 := fun t => ⟨(ev_ne (d := 7) (t := 33) (by decide)).trans (h.r3 t).1, (h.r3 t).2.1, (own3_fresh ((h.r3 t).2.2) hf)⟩, r4 := fun _ => ⟨ev_same (by rw [h.fs]; decide), h.fr.size, fun u => (n6 u).elim, fun _ => at_new W zero3⟩, r5 := fun t => ⟨(ev_ne (d := 7) (t := 8) (by decide)).trans (h.r5 t).1, (h.r5 t).2.1, fun u => (Fresh.at hf ((h.r5 t).2.2.1 u)), fun u => (Fresh.at hf ((h.r5 t).2.2.2 u))⟩, ne := fun _ t => Nat.ne_of_gt (h.lt5 t), l6 := fun e => ⟨(h.l6 e).1, rfl⟩, l7 := h.l7 }
theorem step3_5 (h : IC3 A0 w0 p q b c d0 d1 d2 d3 d4 d5 d6 d7 a W) (hr : 5 ∈ Region.ready .any ops3 #[d0, d1, d2, d3, d4, d5, d6, d7]) : wpOp Tryz.prog ops3 Q 5 (IC3 A0 w0 p q b c d0 d1 d2 d3 d4 true d6 d7) a W := by
  have hc := r3_5 d0 d1 d2 d3 d4 d5 d6 d7 (List.contains_iff_mem.2 hr)
  obtain ⟨m, n, zx, zy, Bm, Bn, h⟩ := h
  have n7 : d7 = true → False := fun e => no_case hc (h.l7 e).2.1
  have hf : Fresh W (W.alloc zero3) := (Fresh.refl W).alloc zero3
  refine wpOp_run (o := o3_5) rfl rfl run3_5 ⟨m, n, zx, W.heap.size, Bm, Bn, ?_⟩
  show IR3 A0 w0 p q b c d0 d1 d2 d3 d4 true d6 d7 (a.put (some 8) _) (W.alloc zero3) m n zx W.heap.size Bm Bn
  exact { fs := by rw [put_size]; exact h.fs, fd := by rw [put_defers]; exact h.fd, sm := fun t n0 n1 n2 n3 n4 n5 => (ev_ne (d := 8) (Ne.symm n5)).trans (h.sm t n0 n1 n2 n3 n4 n5), e2 := (ev_ne (d := 8) (t := 3) (by decide)).trans h.e2, e3 := (ev_ne (d := 8) (t := 4) (by decide)).trans h.e3, g1 := (Fresh.at hf (h.g1)), g2 := (Fresh.at hf (h.g2)), fr := h.fr.trans hf, bz := h.bz, cz := h.cz, r0 := fun t => (ev_ne (d := 8) (t := 30) (by decide)).trans (h.r0 t), r1 := fun t => ⟨(ev_ne (d := 8) (t := 31) (by decide)).trans (h.r1 t).1, (h.r1 t).2.1, (own3_fresh ((h.r1 t).2.2) hf)⟩, r2 := fun t => (ev_ne (d := 8) (t := 32) (by decide)).trans (h.r2 t), r3 := fun t => ⟨(ev_ne (d := 8) (t := 33) (by decide)).trans (h.r3 t).1, (h.r3 t).2.1, (own3_fresh ((h.r3 t).2.2) hf)⟩, r4 := fun t => ⟨(ev_ne (d := 8) (t := 7) (by decide)).trans (h.r4 t).1, (h.r4 t).2.1, fun u => (Fresh.at hf ((h.r4 t).2.2.1 u)), fun u => (Fresh.at hf ((h.r4 t).2.2.2 u))⟩, r5 := fun _ => ⟨ev_same (by rw [h.fs]; decide), h.fr.size, fun u => (n7 u).elim, fun _ => at_new W zero3⟩, ne := fun t _ => Nat.ne_of_lt (h.lt4 t), l6 := h.l6, l7 := fun e => ⟨(h.l7 e).1, rfl, (h.l7 e).2.2⟩ }
theorem step3_6 (h : IC3 A0 w0 p q b c d0 d1 d2 d3 d4 d5 d6 d7 a W) (hr : 6 ∈ Region.ready .any ops3 #[d0, d1, d2, d3, d4, d5, d6, d7]) : wpOp Tryz.prog ops3 Q 6 (IC3 A0 w0 p q b c d0 d1 d2 d3 d4 d5 true d7) a W := by
  have hc := r3_6 d0 d1 d2 d3 d4 d5 d6 d7 (List.contains_iff_mem.2 hr)
  obtain ⟨m, n, zx, zy, Bm, Bn, h⟩ := h
  simp only [Bool.and_eq_true] at hc
  obtain ⟨⟨⟨c6, c4⟩, c1⟩, c3⟩ := hc
  have e6 : d6 = false := by simpa using c6
  have hz := (h.r4 c4).2.2.2 e6
  have hzw := (h.r4 c4).2.1
  have nb : b ≠ zx := Nat.ne_of_lt (Nat.lt_of_lt_of_le h.bz hzw)
  have nc : c ≠ zx := Nat.ne_of_lt (Nat.lt_of_lt_of_le h.cz hzw)
  refine wpOp_skip (o := o3_6) rfl rfl rfl (run3_6 (h.r4 c4).1 (h.r1 c1).1 hz) ⟨m, n, zx, zy, Bm, Bn, ?_⟩
  exact { h with g1 := set3_off h.g1 nb, g2 := set3_off h.g2 nc, fr := set3_fresh h.fr hzw, r1 := fun t => ⟨(h.r1 t).1, (h.r1 t).2.1, set3_own (h.r1 t).2.2 hz⟩, r3 := fun t => ⟨(h.r3 t).1, (h.r3 t).2.1, set3_own (h.r3 t).2.2 hz⟩, r4 := fun t => ⟨(h.r4 t).1, (h.r4 t).2.1, fun _ => set3_box hz, fun e => (nomatch e)⟩, r5 := fun t => ⟨(h.r5 t).1, (h.r5 t).2.1, fun u => set3_off ((h.r5 t).2.2.1 u) (Ne.symm (h.ne c4 t)), fun u => set3_off ((h.r5 t).2.2.2 u) (Ne.symm (h.ne c4 t))⟩, l6 := fun _ => ⟨c1, c4⟩, l7 := fun e => ⟨(h.l7 e).1, (h.l7 e).2.1, rfl⟩ }
theorem step3_7 (h : IC3 A0 w0 p q b c d0 d1 d2 d3 d4 d5 d6 d7 a W) (hr : 7 ∈ Region.ready .any ops3 #[d0, d1, d2, d3, d4, d5, d6, d7]) : wpOp Tryz.prog ops3 Q 7 (IC3 A0 w0 p q b c d0 d1 d2 d3 d4 d5 d6 true) a W := by
  have hc := r3_7 d0 d1 d2 d3 d4 d5 d6 d7 (List.contains_iff_mem.2 hr)
  obtain ⟨m, n, zx, zy, Bm, Bn, h⟩ := h
  simp only [Bool.and_eq_true] at hc
  obtain ⟨⟨⟨c7, c5⟩, c3⟩, c6⟩ := hc
  have e7 : d7 = false := by simpa using c7
  have hz := (h.r5 c5).2.2.2 e7
  have hzw := (h.r5 c5).2.1
  have nb : b ≠ zy := Nat.ne_of_lt (Nat.lt_of_lt_of_le h.bz hzw)
  have nc : c ≠ zy := Nat.ne_of_lt (Nat.lt_of_lt_of_le h.cz hzw)
  refine wpOp_skip (o := o3_7) rfl rfl rfl (run3_7 (h.r5 c5).1 (h.r3 c3).1 hz) ⟨m, n, zx, zy, Bm, Bn, ?_⟩
  exact { h with g1 := set3_off h.g1 nb, g2 := set3_off h.g2 nc, fr := set3_fresh h.fr hzw, r1 := fun t => ⟨(h.r1 t).1, (h.r1 t).2.1, set3_own (h.r1 t).2.2 hz⟩, r3 := fun t => ⟨(h.r3 t).1, (h.r3 t).2.1, set3_own (h.r3 t).2.2 hz⟩, r4 := fun t => ⟨(h.r4 t).1, (h.r4 t).2.1, fun u => set3_off ((h.r4 t).2.2.1 u) (h.ne t c5), fun u => set3_off ((h.r4 t).2.2.2 u) (h.ne t c5)⟩, r5 := fun t => ⟨(h.r5 t).1, (h.r5 t).2.1, fun _ => set3_box hz, fun e => (nomatch e)⟩, l7 := fun _ => ⟨c3, c5, c6⟩ }
end
/-- What the region leaves. -/
structure Res3 (A0 : Act) (w0 : World) (p q : SM3) (b c : Nat) (a : Act) (W : World) (m n : SM3) (zx zy : Nat) : Prop where
  fs : a.tmps.size = 135
  fd : a.defers = []
  sm : ∀ t, t ≠ 30 → t ≠ 31 → t ≠ 32 → t ≠ 33 → t ≠ 7 → t ≠ 8 → a.eval (.tmp t) = A0.eval (.tmp t)
  eb0 : a.eval (.tmp 7) = .pointer (some ⟨zx, 0, none⟩)
  eb1 : a.eval (.tmp 8) = .pointer (some ⟨zy, 0, none⟩)
  es0 : a.eval (.tmp 30) = p.val
  es1 : a.eval (.tmp 31) = m.val
  es2 : a.eval (.tmp 32) = q.val
  es3 : a.eval (.tmp 33) = n.val
  mp : m.seq = p.seq ∧ m.l = p.l
  nq : n.seq = q.seq ∧ n.l = q.l
  om : ∃ B, m.Own W B
  on : ∃ B, n.Own W B
  g1 : W.heap[b]? = some (p.obj 25)
  g2 : W.heap[c]? = some (q.obj 25)
  g3 : W.heap[zx]? = some (m.obj 30)
  g4 : W.heap[zy]? = some (n.obj 30)
  fr : Fresh w0 W
/-- The region, whatever order Go takes it in. -/
theorem region3 {A0 : Act} {w0 : World} {p q : SM3} {b c : Nat} {Q : Exit → Act → World → Prop} {W : World} (hp : p.At w0) (hq : q.At w0)
    (fs : A0.tmps.size = 135) (fd : A0.defers = []) (e2 : A0.eval (.tmp 3) = .pointer (some ⟨b, 0, none⟩)) (e3 : A0.eval (.tmp 4) = .pointer (some ⟨c, 0, none⟩)) (g1 : W.heap[b]? = some (p.obj 25)) (g2 : W.heap[c]? = some (q.obj 25)) (fr : Fresh w0 W) (bz : b < w0.heap.size) (cz : c < w0.heap.size)
    (hQ : ∀ a' W' m n zx zy, Res3 A0 w0 p q b c a' W' m n zx zy → Q .normal a' W') :
    wpAny Tryz.prog .any ops3 Q 8 #[false, false, false, false, false, false, false, false] A0 W := by
  refine any8 (IC3 A0 w0 p q b c) ?_ ?_ ?_ (fun _ _ _ _ _ _ _ _ _ _ h hr => step3_0 h hr) (fun _ _ _ _ _ _ _ _ _ _ h hr => step3_1 hp h hr) (fun _ _ _ _ _ _ _ _ _ _ h hr => step3_2 h hr) (fun _ _ _ _ _ _ _ _ _ _ h hr => step3_3 hq h hr) (fun _ _ _ _ _ _ _ _ _ _ h hr => step3_4 h hr) (fun _ _ _ _ _ _ _ _ _ _ h hr => step3_5 h hr) (fun _ _ _ _ _ _ _ _ _ _ h hr => step3_6 h hr) (fun _ _ _ _ _ _ _ _ _ _ h hr => step3_7 h hr) 8 _ _ _ _ _ _ _ _ A0 W (by decide) ⟨p, q, 0, 0, 0, 0, ?_⟩
  · intro d0 d1 d2 d3 d4 d5 d6 d7 a' W' h hr
    have hd := r3_done d0 d1 d2 d3 d4 d5 d6 d7 (by rw [hr]; rfl)
    simp only [Bool.and_eq_true] at hd
    obtain ⟨⟨⟨⟨⟨⟨⟨t0, t1⟩, t2⟩, t3⟩, t4⟩, t5⟩, t6⟩, t7⟩ := hd
    obtain ⟨m, n, zx, zy, Bm, Bn, h⟩ := h
    exact hQ a' W' m n zx zy ⟨h.fs, h.fd, h.sm, (h.r4 t4).1, (h.r5 t5).1, h.r0 t0, (h.r1 t1).1, h.r2 t2, (h.r3 t3).1, (h.r1 t1).2.1, (h.r3 t3).2.1, ⟨_, (h.r1 t1).2.2⟩, ⟨_, (h.r3 t3).2.2⟩, h.g1, h.g2, (h.r4 t4).2.2.1 t6, (h.r5 t5).2.2.1 t7, h.fr⟩
  · intro d0 d1 d2 d3 d4 d5 d6 d7 k hk
    have := List.all_eq_true.1 (r3_lt d0 d1 d2 d3 d4 d5 d6 d7) k hk
    simpa using this
  · decide +kernel
  · exact { fs := fs, fd := fd, sm := fun t _ _ _ _ _ _ => rfl, e2 := e2, e3 := e3, g1 := g1, g2 := g2, fr := fr, bz := bz, cz := cz, r0 := fun e => (nomatch e), r1 := fun e => (nomatch e), r2 := fun e => (nomatch e), r3 := fun e => (nomatch e), r4 := fun e => (nomatch e), r5 := fun e => (nomatch e), ne := fun e => (nomatch e), l6 := fun e => (nomatch e), l7 := fun e => (nomatch e) }
end Go.Proofs.YtldncgelghcjeaaGreatDoor.K
namespace Go.Proofs.YtldncgelghcjeaaGreatDoor.K
open Go.ChangeShapes Go.WideShapes Go.ChangeAt Go.RowKit

def maskE (acc : Array Nat) (m : Nat) (e : Edge) : Nat := if Region.binds .any e then m ||| (1 <<< e.on) ||| acc.getD e.on 0 else m
def maskOf (acc : Array Nat) (o : Oper) : Nat := o.after.toList.foldl (maskE acc) 0
def masksN (ops : Array Oper) : Nat → Array Nat
  | 0 => #[]
  | n + 1 => (masksN ops n).push (match ops[n]? with | some o => maskOf (masksN ops n) o | none => 0)
def waitsM (ops : Array Oper) (i k : Nat) : Bool := ((masksN ops ops.size).getD i 0).testBit k
theorem masksN_size (ops : Array Oper) : ∀ n, (masksN ops n).size = n
  | 0 => rfl
  | n + 1 => by rw [masksN, Array.size_push, masksN_size ops n]
theorem masksN_get (ops : Array Oper) {i : Nat} : ∀ n, i < n → (masksN ops n).getD i 0 = (match ops[i]? with | some o => maskOf (masksN ops i) o | none => 0)
  | 0, h => absurd h (Nat.not_lt_zero i)
  | n + 1, h => by
    rw [masksN]
    by_cases e : i = n
    · subst e
      rw [Array.getD_eq_getD_getElem?, Array.getElem?_push, if_pos (masksN_size ops i).symm]; rfl
    · have ih := masksN_get ops n (show i < n by omega)
      rw [← ih]
      have hs := masksN_size ops n
      simp [Array.getD_eq_getD_getElem?, Array.getElem?_push, hs, e]
theorem maskE_bit {acc : Array Nat} {k : Nat} : ∀ (l : List Edge) (m : Nat), (l.foldl (maskE acc) m).testBit k = true → m.testBit k = true ∨ ∃ e ∈ l, Region.binds .any e = true ∧ (e.on = k ∨ (acc.getD e.on 0).testBit k = true)
  | [], m, h => .inl h
  | e :: l, m, h => by
    rcases maskE_bit l _ h with h1 | ⟨e2, he, h2⟩
    · unfold maskE at h1
      split at h1
      · rename_i hb
        rw [Nat.testBit_or, Nat.testBit_or, Bool.or_eq_true, Bool.or_eq_true] at h1
        rcases h1 with (h1 | h1) | h1
        · exact .inl h1
        · refine .inr ⟨e, List.mem_cons_self, hb, .inl ?_⟩
          rw [Nat.one_shiftLeft, Nat.testBit_two_pow] at h1
          simpa using h1
        · exact .inr ⟨e, List.mem_cons_self, hb, .inr h1⟩
      · exact .inl h1
    · exact .inr ⟨e2, List.mem_cons_of_mem _ he, h2⟩
theorem waitsM_spec {ops : Array Oper} {k : Nat} {done : Array Bool} (hc : FClosed ops done) : ∀ (j : Nat) (oj : Oper), waitsM ops j k = true → ops[j]? = some oj → (∀ e ∈ oj.after, Region.binds .any e = true → done.getD e.on false = true) → done.getD k false = true := by
  intro j
  induction j using Nat.strongRecOn with
  | _ j ih =>
    intro oj h hj hall
    have hlt : j < ops.size := (Array.getElem?_eq_some_iff.1 hj).1
    unfold waitsM at h
    rw [masksN_get ops ops.size hlt, hj] at h
    rcases maskE_bit _ _ h with h1 | ⟨e, he, hb, h2⟩
    · simp at h1
    · have hd := hall e (by simpa using he) hb
      rcases h2 with h2 | h2
      · rw [← h2]; exact hd
      · have hej : e.on < j := by
          rcases Nat.lt_or_ge e.on j with h3 | h3
          · exact h3
          · have hs := masksN_size ops j
            rw [Array.getD_eq_getD_getElem?, Array.getElem?_eq_none (by omega)] at h2
            simp at h2
        have hes : e.on < ops.size := by omega
        have ho : ops[e.on]? = some ops[e.on] := Array.getElem?_eq_getElem hes
        refine ih e.on hej ops[e.on] ?_ ho (hc e.on _ ho hd)
        unfold waitsM
        rw [masksN_get ops ops.size hes]
        rw [masksN_get ops j hej] at h2
        exact h2
section
variable {P : Program} {Q : Exit → Act → World → Prop}
/-- Slot t is as it was when operation i comes up. -/
def stillM (ops : Array Oper) (i t : Nat) : Bool := (List.range ops.size).all fun j => !(dstOf ops j == some t) || j == i || waitsM ops j i
/-- What operation i does, whenever it comes up. -/
def FStepM (P : Program) (ops : Array Oper) (R : Nat → Value → World → Prop) (A0 : Act) (w0 : World) (i : Nat) (o : Oper) : Prop :=
  ∀ (a : Act) (w : World), Fresh w0 w → (∀ j d, waitsM ops i j = true → dstOf ops j = some d → R j (a.eval (.tmp d)) w) → (∀ t, stillM ops i t = true → a.eval (.tmp t) = A0.eval (.tmp t)) →
    (∃ v w', (execOp a.eval o).run P w = .ok (.value v) w' ∧ Fresh w w' ∧ R i v w') ∨ (∃ f args, (execOp a.eval o).run P w = .ok (.enter f args) w ∧ Calls P f args w fun e w' => ∃ v, e = .returned v ∧ Fresh w w' ∧ R i v w')
theorem flowM_any {ops : Array Oper} {R : Nat → Value → World → Prop} {A0 : Act} {w0 : World} (hb : flowB ops A0.tmps.size = true) (hst : ∀ i v w w', R i v w → Fresh w w' → R i v w')
    (hs : ∀ i o, ops[i]? = some o → FStepM P ops R A0 w0 i o)
    (hQ : ∀ a w, Flow ops R A0 w0 (Array.replicate ops.size true) a w → Q .normal a w) :
    ∀ (f : Nat) (done : Array Bool) (a : Act) (w : World), Flow ops R A0 w0 done a w → (List.range ops.size).countP (fun j => !done.getD j true) ≤ f → wpAny P .any ops Q f done a w := by
  have hend : ∀ (done : Array Bool) (a : Act) (w : World), Flow ops R A0 w0 done a w → (∀ i, i < ops.size → done.getD i false = true) → Q .normal a w := fun done a w h hall => by
    refine hQ a w ?_
    have e : done = Array.replicate ops.size true := by
      apply Array.ext (by rw [h.dsz]; simp)
      intro i h1 h2
      have := hall i (by rw [← h.dsz]; exact h1)
      simpa [h1] using this
    rw [← e]; exact h
  intro f
  induction f with
  | zero =>
    intro done a w h hf
    have hall : ∀ i, i < ops.size → done.getD i false = true := fun i hi => by
      have h0 : (List.range ops.size).countP (fun j => !done.getD j true) = 0 := by omega
      have := List.countP_eq_zero.1 h0 i (List.mem_range.2 hi)
      have h2 : i < done.size := by rw [h.dsz]; exact hi
      simp [h2] at this ⊢; exact this
    refine ⟨?_, hend done a w h hall⟩
    refine List.eq_nil_iff_forall_not_mem.2 (fun i hi => ?_)
    obtain ⟨h0, o, ho, _⟩ := mem_ready.1 hi
    have hlt : i < ops.size := (Array.getElem?_eq_some_iff.1 ho).1
    have h1 := hall i hlt
    have h2 : i < done.size := by rw [h.dsz]; exact hlt
    simp [h2] at h0 h1
    rw [h0] at h1; cases h1
  | succ f ih =>
    intro done a w h hf
    refine ⟨fun e => hend done a w h (all_of_ready hb h.dsz e), fun i hi => ?_⟩
    obtain ⟨h0, o, ho, hall⟩ := mem_ready.1 hi
    have hlt : i < ops.size := (Array.getElem?_eq_some_iff.1 ho).1
    have hld : i < done.size := by rw [h.dsz]; exact hlt
    obtain ⟨hg, ⟨d, hd, hdn⟩, hlow, hne⟩ := flow_oper hb ho
    have hdi : dstOf ops i = some d := by simp [dstOf, ho, hd]
    have h00 : done.getD i false = false := by simp [hld] at h0 ⊢; exact h0
    have hset : ∀ j, (done.setIfInBounds i true).getD j false = true → j = i ∨ done.getD j false = true := fun j hj => by
      by_cases e : i = j
      · exact .inl e.symm
      · rw [getD_set_ne false e] at hj; exact .inr hj
    have key : ∀ (v : Value) (w' : World), Fresh w w' → R i v w' → wpAny P .any ops Q f (done.setIfInBounds i true) (a.put o.dst v) w' := fun v w' hf' hv => by
      refine ih _ _ _ ⟨by rw [put_size]; exact h.size, by rw [put_defers]; exact h.defers, h.fr.trans hf', ?_, by rw [Array.size_setIfInBounds]; exact h.dsz, fun t ht => ?_, fun j e hj he => ?_⟩ ?_
      · intro k p hk hkd e he hbe
        rcases hset k hkd with rfl | h2
        · rw [ho] at hk; cases hk; exact getD_set_true (hall e he hbe)
        · exact getD_set_true (h.closed k p hk h2 e he hbe)
      · have hti : d ≠ t := fun e => ht i (by simp [hld]) (by rw [hdi, e])
        rw [hd, ev_ne hti]
        exact h.same t (fun j hj => ht j (getD_set_true hj))
      · by_cases e2 : i = j
        · subst e2
          rw [hdi] at he; cases he
          rw [hd, ev_same (by rw [h.size]; exact hdn)]
          exact hv
        · rw [getD_set_ne false e2] at hj
          have hjs : j < ops.size := by rw [← h.dsz]; exact getD_lt hj
          have hdne : d ≠ e := fun e3 => hne j hjs e2 (by rw [hdi, he, e3])
          rw [hd, ev_ne hdne]
          exact hst j _ w w' (h.res j e hj he) hf'
      · have := countP_less (p := fun j => !done.getD j true) (q := fun j => !(done.setIfInBounds i true).getD j true) (List.range ops.size) (fun x _ hx => by
          by_cases e : i = x
          · subst e; simp [hld] at hx
          · rw [getD_set_ne true e] at hx; exact hx) i (List.mem_range.2 hlt) (by simp [h0]) (by simp [hld])
        omega
    have hs' := hs i o ho a w h.fr (fun j e hj he => h.res j e (waitsM_spec h.closed i o hj ho hall) he) (fun t ht => h.same t (fun j hj he => by
      have hjs : j < ops.size := by rw [← h.dsz]; exact getD_lt hj
      have := List.all_eq_true.1 ht j (List.mem_range.2 hjs)
      simp only [he, beq_self_eq_true, Bool.not_true, Bool.false_or, Bool.or_eq_true, beq_iff_eq] at this
      rcases this with e | e
      · subst e; rw [h00] at hj; cases hj
      · have hjo : ops[j]? = some ops[j] := Array.getElem?_eq_getElem hjs
        have := waitsM_spec h.closed j ops[j] e hjo (h.closed j _ hjo hj)
        rw [h00] at this; cases this))
    rcases hs' with ⟨v, w', hr, hf', hv⟩ | ⟨fn, args, hr, hc⟩
    · exact wpOp_run ho hg hr (key v w' hf' hv)
    · exact wpOp_call2 ho hg hr hc (fun e w' ⟨v, he, hf', hv⟩ => ⟨v, he, key v w' hf' hv⟩)
/-- THE REGION: its operations' values known ahead, those apart that 'S' speaks of. -/
theorem flowM_region {id : Nat} {ops : Array Oper} {A0 : Act} {w : World} (vs : List (Option Value)) (S : Nat → Value → World → Prop) (hm : P.follows .mixedOrders = true)
    {n : Nat} (hn : A0.tmps.size = n) (hb : flowB ops n = true) (hS : ∀ i v w w', S i v w → Fresh w w' → S i v w')
    (hs : AllFrom (FStepM P ops (Rel vs S) A0 w.drew) 0 ops.toList)
    (hQ : ∀ a w', a.tmps.size = n → a.defers = A0.defers → Fresh w.drew w' → (∀ t, ((List.range ops.size).all fun j => !(dstOf ops j == some t)) = true → a.eval (.tmp t) = A0.eval (.tmp t)) → (∀ j d, dstOf ops j = some d → Rel vs S j (a.eval (.tmp d)) w') → Q .normal a w') : (Code.region id ops true).wp P Q A0 w := by
  subst hn
  refine wp_region_any hm (flowM_any (R := Rel vs S) (w0 := w.drew) hb (Rel.move hS) (fun i o ho => ?_) (fun a w' h => ?_) _ _ _ _ ⟨rfl, rfl, .refl _, fun k o _ hk => ?_, by simp, fun t _ => rfl, fun j d hj => ?_⟩ ?_)
  · have := allFrom_spec ops.toList 0 hs i o (by simpa using ho)
    rwa [Nat.zero_add] at this
  · have hdone : ∀ j d, dstOf ops j = some d → (Array.replicate ops.size true).getD j false = true := fun j d hd => by
      have : j < ops.size := by
        rcases Nat.lt_or_ge j ops.size with h1 | h1
        · exact h1
        · simp [dstOf, Array.getElem?_eq_none h1] at hd
      simp [this]
    refine hQ a w' h.size h.defers h.fr (fun t ht => h.same t (fun j hj he => ?_)) (fun j d hd => h.res j d (hdone j d hd) hd)
    have hjs : j < ops.size := by
      have := getD_lt hj
      simpa using this
    have := List.all_eq_true.1 ht j (List.mem_range.2 hjs)
    rw [he] at this
    simp at this
  · exfalso
    have h1 := getD_lt hk
    simp at h1
    simp [h1] at hk
  · exfalso
    have h1 := getD_lt hj
    simp at h1
    simp [h1] at hj
  · have := List.countP_le_length (p := fun j => !(Array.replicate ops.size false).getD j true) (l := List.range ops.size)
    simpa using this
end
end Go.Proofs.YtldncgelghcjeaaGreatDoor.K
