/-
  Two states turned into the document's, in whatever order Go takes it (printed by genreg3.py.txt 1).
-/
import Derived.Test.YtphjhlnjfcfdcaaKSM1
import Derived.OrdersHeld
import Derived.Laws.World
namespace Go.Proofs.Ytphjhlnjfcfdcaa
open Go.ChangeShapes Go.WideShapes Go.ChangeAt Go.RowKit
set_option maxRecDepth 100000

def o1_0 : Oper := { dst := some 26, op := Go.Op.load 25 (Go.Operand.tmp 3), type := 25, pos := "law.go:44", after := #[], guard := none }
def o1_1 : Oper := { dst := some 27, op := Go.Op.call { callee := Go.Callee.value (Go.Operand.func 11), args := #[Go.Operand.tmp 26], argTypes := #[25] }, type := 30, pos := "law.go:44", after := #[{ on := 0, ground := Go.Ground.data }], guard := none }
def o1_2 : Oper := { dst := some 28, op := Go.Op.load 25 (Go.Operand.tmp 4), type := 25, pos := "law.go:44", after := #[], guard := none }
def o1_3 : Oper := { dst := some 29, op := Go.Op.call { callee := Go.Callee.value (Go.Operand.func 11), args := #[Go.Operand.tmp 28], argTypes := #[25] }, type := 30, pos := "law.go:44", after := #[{ on := 2, ground := Go.Ground.data }, { on := 1, ground := Go.Ground.chain }], guard := none }
def o1_4 : Oper := { dst := some 7, op := Go.Op.alloc 30, type := 0, pos := "law.go:44", after := #[], guard := none }
def o1_5 : Oper := { dst := some 8, op := Go.Op.alloc 30, type := 0, pos := "law.go:44", after := #[], guard := none }
def o1_6 : Oper := { dst := none, op := Go.Op.store 30 (Go.Operand.tmp 7) (Go.Operand.tmp 27), type := 0, pos := "law.go:44", after := #[{ on := 4, ground := Go.Ground.data }, { on := 1, ground := Go.Ground.data }, { on := 3, ground := Go.Ground.chain }, { on := 0, ground := Go.Ground.phase }, { on := 1, ground := Go.Ground.phase }, { on := 2, ground := Go.Ground.textOnly Go.Departure.lateStores }, { on := 3, ground := Go.Ground.textOnly Go.Departure.lateStoresUnsure }, { on := 4, ground := Go.Ground.phase }, { on := 5, ground := Go.Ground.phase }], guard := none }
def o1_7 : Oper := { dst := none, op := Go.Op.store 30 (Go.Operand.tmp 8) (Go.Operand.tmp 29), type := 0, pos := "law.go:44", after := #[{ on := 5, ground := Go.Ground.data }, { on := 3, ground := Go.Ground.data }, { on := 6, ground := Go.Ground.chain }, { on := 0, ground := Go.Ground.phase }, { on := 1, ground := Go.Ground.phase }, { on := 2, ground := Go.Ground.phase }, { on := 3, ground := Go.Ground.phase }, { on := 4, ground := Go.Ground.phase }, { on := 5, ground := Go.Ground.phase }, { on := 6, ground := Go.Ground.phase }], guard := none }
def ops1 : Array Oper := #[o1_0, o1_1, o1_2, o1_3, o1_4, o1_5, o1_6, o1_7]
theorem r1_done : ∀ d0 d1 d2 d3 d4 d5 d6 d7 : Bool, (Region.ready .any ops1 #[d0, d1, d2, d3, d4, d5, d6, d7]).isEmpty = true → (d0 && d1 && d2 && d3 && d4 && d5 && d6 && d7) = true := by decide +kernel
theorem r1_1 : ∀ d0 d1 d2 d3 d4 d5 d6 d7 : Bool, (Region.ready .any ops1 #[d0, d1, d2, d3, d4, d5, d6, d7]).contains 1 = true → (!d1 && d0) = true := by decide +kernel
theorem r1_3 : ∀ d0 d1 d2 d3 d4 d5 d6 d7 : Bool, (Region.ready .any ops1 #[d0, d1, d2, d3, d4, d5, d6, d7]).contains 3 = true → (!d3 && d2 && d1) = true := by decide +kernel
theorem r1_4 : ∀ d0 d1 d2 d3 d4 d5 d6 d7 : Bool, (Region.ready .any ops1 #[d0, d1, d2, d3, d4, d5, d6, d7]).contains 4 = true → (!d4) = true := by decide +kernel
theorem r1_5 : ∀ d0 d1 d2 d3 d4 d5 d6 d7 : Bool, (Region.ready .any ops1 #[d0, d1, d2, d3, d4, d5, d6, d7]).contains 5 = true → (!d5) = true := by decide +kernel
theorem r1_6 : ∀ d0 d1 d2 d3 d4 d5 d6 d7 : Bool, (Region.ready .any ops1 #[d0, d1, d2, d3, d4, d5, d6, d7]).contains 6 = true → (!d6 && d4 && d1 && d3) = true := by decide +kernel
theorem r1_7 : ∀ d0 d1 d2 d3 d4 d5 d6 d7 : Bool, (Region.ready .any ops1 #[d0, d1, d2, d3, d4, d5, d6, d7]).contains 7 = true → (!d7 && d5 && d3 && d6) = true := by decide +kernel
theorem r1_lt : ∀ d0 d1 d2 d3 d4 d5 d6 d7 : Bool, (Region.ready .any ops1 #[d0, d1, d2, d3, d4, d5, d6, d7]).all (fun k => decide (k < 8)) = true := by decide +kernel
abbrev zero1 : Obj := .cells #[.int .u32 0, .slice none 0 0] 30
/-- The two stores of a state into a box. -/
def set1 (W : World) (z : Nat) (p : SM1) : World := (W.setCell ⟨z, 0, none⟩ (.int .u32 p.seq)).setCell ⟨z, 1, none⟩ (.slice p.a p.l.length p.c)
theorem set1_box {W : World} {z : Nat} {x : SM1} (h : W.heap[z]? = some zero1) : (set1 W z x).heap[z]? = some (x.obj 30) := at_set (at_set h 0 _) 1 _
theorem set1_off {W : World} {z g : Nat} {x : SM1} {o : Obj} (h : W.heap[g]? = some o) (hne : g ≠ z) : (set1 W z x).heap[g]? = some o := at_off (at_off h hne _) hne _
theorem set1_own {W : World} {z B : Nat} {x y : SM1} (h : y.Own W B) (hz : W.heap[z]? = some zero1) : y.Own (set1 W z x) B :=
  own1_set (own1_set h hz 0 _) (at_set hz 0 _) 1 _
theorem set1_fresh {w W : World} {z : Nat} {x : SM1} (f : Fresh w W) (hz : w.heap.size ≤ z) : Fresh w (set1 W z x) := (f.setCell (p := ⟨z, 0, none⟩) hz _).setCell (p := ⟨z, 1, none⟩) hz _
/-- What holds between the operations. -/
structure IR1 (A0 : Act) (w0 : World) (p q : SM1) (b c : Nat) (d0 d1 d2 d3 d4 d5 d6 d7 : Bool) (a : Act) (W : World) (m n : SM1) (zx zy Bm Bn : Nat) : Prop where
  fs : a.tmps.size = 86
  fd : a.defers = []
  sm : ∀ t, t ≠ 26 → t ≠ 27 → t ≠ 28 → t ≠ 29 → t ≠ 7 → t ≠ 8 → a.eval (.tmp t) = A0.eval (.tmp t)
  e2 : a.eval (.tmp 3) = .pointer (some ⟨b, 0, none⟩)
  e3 : a.eval (.tmp 4) = .pointer (some ⟨c, 0, none⟩)
  g1 : W.heap[b]? = some (p.obj 25)
  g2 : W.heap[c]? = some (q.obj 25)
  fr : Fresh w0 W
  bz : b < w0.heap.size
  cz : c < w0.heap.size
  r0 : d0 = true → a.eval (.tmp 26) = p.val
  r1 : d1 = true → a.eval (.tmp 27) = m.val ∧ (m.seq = p.seq ∧ m.l = p.l) ∧ m.Own W Bm
  r2 : d2 = true → a.eval (.tmp 28) = q.val
  r3 : d3 = true → a.eval (.tmp 29) = n.val ∧ (n.seq = q.seq ∧ n.l = q.l) ∧ n.Own W Bn
  r4 : d4 = true → a.eval (.tmp 7) = .pointer (some ⟨zx, 0, none⟩) ∧ w0.heap.size ≤ zx ∧ (d6 = true → W.heap[zx]? = some (m.obj 30)) ∧ (d6 = false → W.heap[zx]? = some zero1)
  r5 : d5 = true → a.eval (.tmp 8) = .pointer (some ⟨zy, 0, none⟩) ∧ w0.heap.size ≤ zy ∧ (d7 = true → W.heap[zy]? = some (n.obj 30)) ∧ (d7 = false → W.heap[zy]? = some zero1)
  ne : d4 = true → d5 = true → zx ≠ zy
  l6 : d6 = true → d1 = true ∧ d4 = true
  l7 : d7 = true → d3 = true ∧ d5 = true ∧ d6 = true

theorem run1_0 {a : Act} {W : World} {b : Nat} {p : SM1} (e : a.eval (.tmp 3) = .pointer (some ⟨b, 0, none⟩)) (g : W.heap[b]? = some (p.obj 25)) : (execOp a.eval o1_0).run Try.prog W = .ok (.value p.val) W := by
  have c0 := cell_of_at g (i := 0) rfl
  have c1 := cell_of_at g (i := 1) rfl
  have e := ev_get e
  simp [execOp, o1_0, e, go_sem, c0, c1, SM1.val]
theorem run1_2 {a : Act} {W : World} {b : Nat} {p : SM1} (e : a.eval (.tmp 4) = .pointer (some ⟨b, 0, none⟩)) (g : W.heap[b]? = some (p.obj 25)) : (execOp a.eval o1_2).run Try.prog W = .ok (.value p.val) W := by
  have c0 := cell_of_at g (i := 0) rfl
  have c1 := cell_of_at g (i := 1) rfl
  have e := ev_get e
  simp [execOp, o1_2, e, go_sem, c0, c1, SM1.val]
theorem run1_1 {a : Act} {W : World} {v : Value} (e : a.eval (.tmp 26) = v) : (execOp a.eval o1_1).run Try.prog W = .ok (.enter 11 #[v]) W := by
  have e := ev_get e
  simp [execOp, o1_1, e, go_sem]
theorem run1_3 {a : Act} {W : World} {v : Value} (e : a.eval (.tmp 28) = v) : (execOp a.eval o1_3).run Try.prog W = .ok (.enter 11 #[v]) W := by
  have e := ev_get e
  simp [execOp, o1_3, e, go_sem]
theorem run1_4 {a : Act} {W : World} : (execOp a.eval o1_4).run Try.prog W = .ok (.value (.pointer (some ⟨W.heap.size, 0, none⟩))) (W.alloc zero1) := by
  simp [execOp, o1_4, go_sem]
theorem run1_5 {a : Act} {W : World} : (execOp a.eval o1_5).run Try.prog W = .ok (.value (.pointer (some ⟨W.heap.size, 0, none⟩))) (W.alloc zero1) := by
  simp [execOp, o1_5, go_sem]
theorem run1_6 {a : Act} {W : World} {z : Nat} {p : SM1} (e : a.eval (.tmp 7) = .pointer (some ⟨z, 0, none⟩)) (e' : a.eval (.tmp 27) = p.val) (g : W.heap[z]? = some zero1) : (execOp a.eval o1_6).run Try.prog W = .ok .skip (set1 W z p) := by
  have c0 := cell_of_at g (i := 0) rfl
  have c1 := cell_of_at g (i := 1) rfl
  have f0 := frozen_of_at g 0
  have f1 := frozen_of_at g 1
  have e := ev_get e
  have e' := ev_get e'
  simp [execOp, o1_6, e, e', go_sem, c0, c1, f0, f1, set1, SM1.val]
theorem run1_7 {a : Act} {W : World} {z : Nat} {p : SM1} (e : a.eval (.tmp 8) = .pointer (some ⟨z, 0, none⟩)) (e' : a.eval (.tmp 29) = p.val) (g : W.heap[z]? = some zero1) : (execOp a.eval o1_7).run Try.prog W = .ok .skip (set1 W z p) := by
  have c0 := cell_of_at g (i := 0) rfl
  have c1 := cell_of_at g (i := 1) rfl
  have f0 := frozen_of_at g 0
  have f1 := frozen_of_at g 1
  have e := ev_get e
  have e' := ev_get e'
  simp [execOp, o1_7, e, e', go_sem, c0, c1, f0, f1, set1, SM1.val]
def IC1 (A0 : Act) (w0 : World) (p q : SM1) (b c : Nat) (d0 d1 d2 d3 d4 d5 d6 d7 : Bool) (a : Act) (W : World) : Prop := ∃ m n zx zy Bm Bn, IR1 A0 w0 p q b c d0 d1 d2 d3 d4 d5 d6 d7 a W m n zx zy Bm Bn
section
variable {A0 : Act} {w0 : World} {p q : SM1} {b c : Nat} {Q : Exit → Act → World → Prop} {d0 d1 d2 d3 d4 d5 d6 d7 : Bool} {a : Act} {W : World}
theorem IR1.lt4 {m n : SM1} {zx zy Bm Bn : Nat} (h : IR1 A0 w0 p q b c d0 d1 d2 d3 d4 d5 d6 d7 a W m n zx zy Bm Bn) (t : d4 = true) : zx < W.heap.size := by
  rcases Bool.eq_false_or_eq_true d6 with u | u
  · exact lt_of_at ((h.r4 t).2.2.1 u)
  · exact lt_of_at ((h.r4 t).2.2.2 u)
theorem IR1.lt5 {m n : SM1} {zx zy Bm Bn : Nat} (h : IR1 A0 w0 p q b c d0 d1 d2 d3 d4 d5 d6 d7 a W m n zx zy Bm Bn) (t : d5 = true) : zy < W.heap.size := by
  rcases Bool.eq_false_or_eq_true d7 with u | u
  · exact lt_of_at ((h.r5 t).2.2.1 u)
  · exact lt_of_at ((h.r5 t).2.2.2 u)
theorem step1_0 (h : IC1 A0 w0 p q b c d0 d1 d2 d3 d4 d5 d6 d7 a W) (_ : 0 ∈ Region.ready .any ops1 #[d0, d1, d2, d3, d4, d5, d6, d7]) : wpOp Try.prog ops1 Q 0 (IC1 A0 w0 p q b c true d1 d2 d3 d4 d5 d6 d7) a W := by
  obtain ⟨m, n, zx, zy, Bm, Bn, h⟩ := h
  refine wpOp_run (o := o1_0) rfl rfl (run1_0 h.e2 h.g1) ⟨m, n, zx, zy, Bm, Bn, ?_⟩
  show IR1 A0 w0 p q b c true d1 d2 d3 d4 d5 d6 d7 (a.put (some 26) _) W m n zx zy Bm Bn
  exact { fs := by rw [put_size]; exact h.fs, fd := by rw [put_defers]; exact h.fd, sm := fun t n0 n1 n2 n3 n4 n5 => (ev_ne (d := 26) (Ne.symm n0)).trans (h.sm t n0 n1 n2 n3 n4 n5), e2 := (ev_ne (d := 26) (t := 3) (by decide)).trans h.e2, e3 := (ev_ne (d := 26) (t := 4) (by decide)).trans h.e3, g1 := h.g1, g2 := h.g2, fr := h.fr, bz := h.bz, cz := h.cz, r0 := fun _ => ev_same (by rw [h.fs]; decide), r1 := fun t => ⟨(ev_ne (d := 26) (t := 27) (by decide)).trans (h.r1 t).1, (h.r1 t).2.1, (h.r1 t).2.2⟩, r2 := fun t => (ev_ne (d := 26) (t := 28) (by decide)).trans (h.r2 t), r3 := fun t => ⟨(ev_ne (d := 26) (t := 29) (by decide)).trans (h.r3 t).1, (h.r3 t).2.1, (h.r3 t).2.2⟩, r4 := fun t => ⟨(ev_ne (d := 26) (t := 7) (by decide)).trans (h.r4 t).1, (h.r4 t).2.1, fun u => (h.r4 t).2.2.1 u, fun u => (h.r4 t).2.2.2 u⟩, r5 := fun t => ⟨(ev_ne (d := 26) (t := 8) (by decide)).trans (h.r5 t).1, (h.r5 t).2.1, fun u => (h.r5 t).2.2.1 u, fun u => (h.r5 t).2.2.2 u⟩, ne := h.ne, l6 := h.l6, l7 := h.l7 }
theorem step1_2 (h : IC1 A0 w0 p q b c d0 d1 d2 d3 d4 d5 d6 d7 a W) (_ : 2 ∈ Region.ready .any ops1 #[d0, d1, d2, d3, d4, d5, d6, d7]) : wpOp Try.prog ops1 Q 2 (IC1 A0 w0 p q b c d0 d1 true d3 d4 d5 d6 d7) a W := by
  obtain ⟨m, n, zx, zy, Bm, Bn, h⟩ := h
  refine wpOp_run (o := o1_2) rfl rfl (run1_2 h.e3 h.g2) ⟨m, n, zx, zy, Bm, Bn, ?_⟩
  show IR1 A0 w0 p q b c d0 d1 true d3 d4 d5 d6 d7 (a.put (some 28) _) W m n zx zy Bm Bn
  exact { fs := by rw [put_size]; exact h.fs, fd := by rw [put_defers]; exact h.fd, sm := fun t n0 n1 n2 n3 n4 n5 => (ev_ne (d := 28) (Ne.symm n2)).trans (h.sm t n0 n1 n2 n3 n4 n5), e2 := (ev_ne (d := 28) (t := 3) (by decide)).trans h.e2, e3 := (ev_ne (d := 28) (t := 4) (by decide)).trans h.e3, g1 := h.g1, g2 := h.g2, fr := h.fr, bz := h.bz, cz := h.cz, r0 := fun t => (ev_ne (d := 28) (t := 26) (by decide)).trans (h.r0 t), r1 := fun t => ⟨(ev_ne (d := 28) (t := 27) (by decide)).trans (h.r1 t).1, (h.r1 t).2.1, (h.r1 t).2.2⟩, r2 := fun _ => ev_same (by rw [h.fs]; decide), r3 := fun t => ⟨(ev_ne (d := 28) (t := 29) (by decide)).trans (h.r3 t).1, (h.r3 t).2.1, (h.r3 t).2.2⟩, r4 := fun t => ⟨(ev_ne (d := 28) (t := 7) (by decide)).trans (h.r4 t).1, (h.r4 t).2.1, fun u => (h.r4 t).2.2.1 u, fun u => (h.r4 t).2.2.2 u⟩, r5 := fun t => ⟨(ev_ne (d := 28) (t := 8) (by decide)).trans (h.r5 t).1, (h.r5 t).2.1, fun u => (h.r5 t).2.2.1 u, fun u => (h.r5 t).2.2.2 u⟩, ne := h.ne, l6 := h.l6, l7 := h.l7 }
theorem step1_1 (hp : p.At w0) (h : IC1 A0 w0 p q b c d0 d1 d2 d3 d4 d5 d6 d7 a W) (hr : 1 ∈ Region.ready .any ops1 #[d0, d1, d2, d3, d4, d5, d6, d7]) : wpOp Try.prog ops1 Q 1 (IC1 A0 w0 p q b c d0 true d2 d3 d4 d5 d6 d7) a W := by
  have hc := r1_1 d0 d1 d2 d3 d4 d5 d6 d7 (List.contains_iff_mem.2 hr)
  obtain ⟨m, n, zx, zy, Bm, Bn, h⟩ := h
  simp only [Bool.and_eq_true] at hc
  obtain ⟨c1, c0⟩ := hc
  have n6 : d6 = true → False := fun e => no_case c1 (h.l6 e).1
  refine wpOp_call2 (o := o1_1) rfl rfl (run1_1 (h.r0 c0)) (of1_own p w0 W hp h.fr) ?_
  rintro e V ⟨x, rfl, hx, ho, hf⟩
  refine ⟨_, rfl, x, n, zx, zy, W.heap.size, Bn, ?_⟩
  show IR1 A0 w0 p q b c d0 true d2 d3 d4 d5 d6 d7 (a.put (some 27) _) V x n zx zy W.heap.size Bn
  exact { fs := by rw [put_size]; exact h.fs, fd := by rw [put_defers]; exact h.fd, sm := fun t n0 n1 n2 n3 n4 n5 => (ev_ne (d := 27) (Ne.symm n1)).trans (h.sm t n0 n1 n2 n3 n4 n5), e2 := (ev_ne (d := 27) (t := 3) (by decide)).trans h.e2, e3 := (ev_ne (d := 27) (t := 4) (by decide)).trans h.e3, g1 := (Fresh.at hf (h.g1)), g2 := (Fresh.at hf (h.g2)), fr := h.fr.trans hf, bz := h.bz, cz := h.cz, r0 := fun t => (ev_ne (d := 27) (t := 26) (by decide)).trans (h.r0 t), r1 := fun _ => ⟨ev_same (by rw [h.fs]; decide), hx, ho⟩, r2 := fun t => (ev_ne (d := 27) (t := 28) (by decide)).trans (h.r2 t), r3 := fun t => ⟨(ev_ne (d := 27) (t := 29) (by decide)).trans (h.r3 t).1, (h.r3 t).2.1, (own1_fresh ((h.r3 t).2.2) hf)⟩, r4 := fun t => ⟨(ev_ne (d := 27) (t := 7) (by decide)).trans (h.r4 t).1, (h.r4 t).2.1, fun u => (n6 u).elim, fun u => (Fresh.at hf ((h.r4 t).2.2.2 u))⟩, r5 := fun t => ⟨(ev_ne (d := 27) (t := 8) (by decide)).trans (h.r5 t).1, (h.r5 t).2.1, fun u => (Fresh.at hf ((h.r5 t).2.2.1 u)), fun u => (Fresh.at hf ((h.r5 t).2.2.2 u))⟩, ne := h.ne, l6 := fun e => ⟨rfl, (h.l6 e).2⟩, l7 := h.l7 }
theorem step1_3 (hq : q.At w0) (h : IC1 A0 w0 p q b c d0 d1 d2 d3 d4 d5 d6 d7 a W) (hr : 3 ∈ Region.ready .any ops1 #[d0, d1, d2, d3, d4, d5, d6, d7]) : wpOp Try.prog ops1 Q 3 (IC1 A0 w0 p q b c d0 d1 d2 true d4 d5 d6 d7) a W := by
  have hc := r1_3 d0 d1 d2 d3 d4 d5 d6 d7 (List.contains_iff_mem.2 hr)
  obtain ⟨m, n, zx, zy, Bm, Bn, h⟩ := h
  simp only [Bool.and_eq_true] at hc
  obtain ⟨⟨c3, c2⟩, c1⟩ := hc
  have n7 : d7 = true → False := fun e => no_case c3 (h.l7 e).1
  refine wpOp_call2 (o := o1_3) rfl rfl (run1_3 (h.r2 c2)) (of1_own q w0 W hq h.fr) ?_
  rintro e V ⟨x, rfl, hx, ho, hf⟩
  refine ⟨_, rfl, m, x, zx, zy, Bm, W.heap.size, ?_⟩
  show IR1 A0 w0 p q b c d0 d1 d2 true d4 d5 d6 d7 (a.put (some 29) _) V m x zx zy Bm W.heap.size
  exact { fs := by rw [put_size]; exact h.fs, fd := by rw [put_defers]; exact h.fd, sm := fun t n0 n1 n2 n3 n4 n5 => (ev_ne (d := 29) (Ne.symm n3)).trans (h.sm t n0 n1 n2 n3 n4 n5), e2 := (ev_ne (d := 29) (t := 3) (by decide)).trans h.e2, e3 := (ev_ne (d := 29) (t := 4) (by decide)).trans h.e3, g1 := (Fresh.at hf (h.g1)), g2 := (Fresh.at hf (h.g2)), fr := h.fr.trans hf, bz := h.bz, cz := h.cz, r0 := fun t => (ev_ne (d := 29) (t := 26) (by decide)).trans (h.r0 t), r1 := fun t => ⟨(ev_ne (d := 29) (t := 27) (by decide)).trans (h.r1 t).1, (h.r1 t).2.1, (own1_fresh ((h.r1 t).2.2) hf)⟩, r2 := fun t => (ev_ne (d := 29) (t := 28) (by decide)).trans (h.r2 t), r3 := fun _ => ⟨ev_same (by rw [h.fs]; decide), hx, ho⟩, r4 := fun t => ⟨(ev_ne (d := 29) (t := 7) (by decide)).trans (h.r4 t).1, (h.r4 t).2.1, fun u => (Fresh.at hf ((h.r4 t).2.2.1 u)), fun u => (Fresh.at hf ((h.r4 t).2.2.2 u))⟩, r5 := fun t => ⟨(ev_ne (d := 29) (t := 8) (by decide)).trans (h.r5 t).1, (h.r5 t).2.1, fun u => (n7 u).elim, fun u => (Fresh.at hf ((h.r5 t).2.2.2 u))⟩, ne := h.ne, l6 := h.l6, l7 := fun e => ⟨rfl, (h.l7 e).2.1, (h.l7 e).2.2⟩ }
theorem step1_4 (h : IC1 A0 w0 p q b c d0 d1 d2 d3 d4 d5 d6 d7 a W) (hr : 4 ∈ Region.ready .any ops1 #[d0, d1, d2, d3, d4, d5, d6, d7]) : wpOp Try.prog ops1 Q 4 (IC1 A0 w0 p q b c d0 d1 d2 d3 true d5 d6 d7) a W := by
  have hc := r1_4 d0 d1 d2 d3 d4 d5 d6 d7 (List.contains_iff_mem.2 hr)
  obtain ⟨m, n, zx, zy, Bm, Bn, h⟩ := h
  have n6 : d6 = true → False := fun e => no_case hc (h.l6 e).2
  have hf : Fresh W (W.alloc zero1) := (Fresh.refl W).alloc zero1
  refine wpOp_run (o := o1_4) rfl rfl run1_4 ⟨m, n, W.heap.size, zy, Bm, Bn, ?_⟩
  show IR1 A0 w0 p q b c d0 d1 d2 d3 true d5 d6 d7 (a.put (some 7) _) (W.alloc zero1) m n W.heap.size zy Bm Bn
  exact { fs := by rw [put_size]; exact h.fs, fd := by rw [put_defers]; exact h.fd, sm := fun t n0 n1 n2 n3 n4 n5 => (ev_ne (d := 7) (Ne.symm n4)).trans (h.sm t n0 n1 n2 n3 n4 n5), e2 := (ev_ne (d := 7) (t := 3) (by decide)).trans h.e2, e3 := (ev_ne (d := 7) (t := 4) (by decide)).trans h.e3, g1 := (Fresh.at hf (h.g1)), g2 := (Fresh.at hf (h.g2)), fr := h.fr.trans hf, bz := h.bz, cz := h.cz, r0 := fun t => (ev_ne (d := 7) (t := 26) (by decide)).trans (h.r0 t), r1 := fun t => ⟨(ev_ne (d := 7) (t := 27) (by decide)).trans (h.r1 t).1, (h.r1 t).2.1, (own1_fresh ((h.r1 t).2.2) hf)⟩, r2 := fun t => (ev_ne (d := 7) (t := 28) (by decide)).trans (h.r2 t), r3 := fun t => ⟨(ev_ne (d := 7) (t := 29) (by decide)).trans (h.r3 t).1, (h.r3 t).2.1, (own1_fresh ((h.r3 t).2.2) hf)⟩, r4 := fun _ => ⟨ev_same (by rw [h.fs]; decide), h.fr.size, fun u => (n6 u).elim, fun _ => at_new W zero1⟩, r5 := fun t => ⟨(ev_ne (d := 7) (t := 8) (by decide)).trans (h.r5 t).1, (h.r5 t).2.1, fun u => (Fresh.at hf ((h.r5 t).2.2.1 u)), fun u => (Fresh.at hf ((h.r5 t).2.2.2 u))⟩, ne := fun _ t => Nat.ne_of_gt (h.lt5 t), l6 := fun e => ⟨(h.l6 e).1, rfl⟩, l7 := h.l7 }
theorem step1_5 (h : IC1 A0 w0 p q b c d0 d1 d2 d3 d4 d5 d6 d7 a W) (hr : 5 ∈ Region.ready .any ops1 #[d0, d1, d2, d3, d4, d5, d6, d7]) : wpOp Try.prog ops1 Q 5 (IC1 A0 w0 p q b c d0 d1 d2 d3 d4 true d6 d7) a W := by
  have hc := r1_5 d0 d1 d2 d3 d4 d5 d6 d7 (List.contains_iff_mem.2 hr)
  obtain ⟨m, n, zx, zy, Bm, Bn, h⟩ := h
  have n7 : d7 = true → False := fun e => no_case hc (h.l7 e).2.1
  have hf : Fresh W (W.alloc zero1) := (Fresh.refl W).alloc zero1
  refine wpOp_run (o := o1_5) rfl rfl run1_5 ⟨m, n, zx, W.heap.size, Bm, Bn, ?_⟩
  show IR1 A0 w0 p q b c d0 d1 d2 d3 d4 true d6 d7 (a.put (some 8) _) (W.alloc zero1) m n zx W.heap.size Bm Bn
  exact { fs := by rw [put_size]; exact h.fs, fd := by rw [put_defers]; exact h.fd, sm := fun t n0 n1 n2 n3 n4 n5 => (ev_ne (d := 8) (Ne.symm n5)).trans (h.sm t n0 n1 n2 n3 n4 n5), e2 := (ev_ne (d := 8) (t := 3) (by decide)).trans h.e2, e3 := (ev_ne (d := 8) (t := 4) (by decide)).trans h.e3, g1 := (Fresh.at hf (h.g1)), g2 := (Fresh.at hf (h.g2)), fr := h.fr.trans hf, bz := h.bz, cz := h.cz, r0 := fun t => (ev_ne (d := 8) (t := 26) (by decide)).trans (h.r0 t), r1 := fun t => ⟨(ev_ne (d := 8) (t := 27) (by decide)).trans (h.r1 t).1, (h.r1 t).2.1, (own1_fresh ((h.r1 t).2.2) hf)⟩, r2 := fun t => (ev_ne (d := 8) (t := 28) (by decide)).trans (h.r2 t), r3 := fun t => ⟨(ev_ne (d := 8) (t := 29) (by decide)).trans (h.r3 t).1, (h.r3 t).2.1, (own1_fresh ((h.r3 t).2.2) hf)⟩, r4 := fun t => ⟨(ev_ne (d := 8) (t := 7) (by decide)).trans (h.r4 t).1, (h.r4 t).2.1, fun u => (Fresh.at hf ((h.r4 t).2.2.1 u)), fun u => (Fresh.at hf ((h.r4 t).2.2.2 u))⟩, r5 := fun _ => ⟨ev_same (by rw [h.fs]; decide), h.fr.size, fun u => (n7 u).elim, fun _ => at_new W zero1⟩, ne := fun t _ => Nat.ne_of_lt (h.lt4 t), l6 := h.l6, l7 := fun e => ⟨(h.l7 e).1, rfl, (h.l7 e).2.2⟩ }
theorem step1_6 (h : IC1 A0 w0 p q b c d0 d1 d2 d3 d4 d5 d6 d7 a W) (hr : 6 ∈ Region.ready .any ops1 #[d0, d1, d2, d3, d4, d5, d6, d7]) : wpOp Try.prog ops1 Q 6 (IC1 A0 w0 p q b c d0 d1 d2 d3 d4 d5 true d7) a W := by
  have hc := r1_6 d0 d1 d2 d3 d4 d5 d6 d7 (List.contains_iff_mem.2 hr)
  obtain ⟨m, n, zx, zy, Bm, Bn, h⟩ := h
  simp only [Bool.and_eq_true] at hc
  obtain ⟨⟨⟨c6, c4⟩, c1⟩, c3⟩ := hc
  have e6 : d6 = false := by simpa using c6
  have hz := (h.r4 c4).2.2.2 e6
  have hzw := (h.r4 c4).2.1
  have nb : b ≠ zx := Nat.ne_of_lt (Nat.lt_of_lt_of_le h.bz hzw)
  have nc : c ≠ zx := Nat.ne_of_lt (Nat.lt_of_lt_of_le h.cz hzw)
  refine wpOp_skip (o := o1_6) rfl rfl rfl (run1_6 (h.r4 c4).1 (h.r1 c1).1 hz) ⟨m, n, zx, zy, Bm, Bn, ?_⟩
  exact { h with g1 := set1_off h.g1 nb, g2 := set1_off h.g2 nc, fr := set1_fresh h.fr hzw, r1 := fun t => ⟨(h.r1 t).1, (h.r1 t).2.1, set1_own (h.r1 t).2.2 hz⟩, r3 := fun t => ⟨(h.r3 t).1, (h.r3 t).2.1, set1_own (h.r3 t).2.2 hz⟩, r4 := fun t => ⟨(h.r4 t).1, (h.r4 t).2.1, fun _ => set1_box hz, fun e => (nomatch e)⟩, r5 := fun t => ⟨(h.r5 t).1, (h.r5 t).2.1, fun u => set1_off ((h.r5 t).2.2.1 u) (Ne.symm (h.ne c4 t)), fun u => set1_off ((h.r5 t).2.2.2 u) (Ne.symm (h.ne c4 t))⟩, l6 := fun _ => ⟨c1, c4⟩, l7 := fun e => ⟨(h.l7 e).1, (h.l7 e).2.1, rfl⟩ }
theorem step1_7 (h : IC1 A0 w0 p q b c d0 d1 d2 d3 d4 d5 d6 d7 a W) (hr : 7 ∈ Region.ready .any ops1 #[d0, d1, d2, d3, d4, d5, d6, d7]) : wpOp Try.prog ops1 Q 7 (IC1 A0 w0 p q b c d0 d1 d2 d3 d4 d5 d6 true) a W := by
  have hc := r1_7 d0 d1 d2 d3 d4 d5 d6 d7 (List.contains_iff_mem.2 hr)
  obtain ⟨m, n, zx, zy, Bm, Bn, h⟩ := h
  simp only [Bool.and_eq_true] at hc
  obtain ⟨⟨⟨c7, c5⟩, c3⟩, c6⟩ := hc
  have e7 : d7 = false := by simpa using c7
  have hz := (h.r5 c5).2.2.2 e7
  have hzw := (h.r5 c5).2.1
  have nb : b ≠ zy := Nat.ne_of_lt (Nat.lt_of_lt_of_le h.bz hzw)
  have nc : c ≠ zy := Nat.ne_of_lt (Nat.lt_of_lt_of_le h.cz hzw)
  refine wpOp_skip (o := o1_7) rfl rfl rfl (run1_7 (h.r5 c5).1 (h.r3 c3).1 hz) ⟨m, n, zx, zy, Bm, Bn, ?_⟩
  exact { h with g1 := set1_off h.g1 nb, g2 := set1_off h.g2 nc, fr := set1_fresh h.fr hzw, r1 := fun t => ⟨(h.r1 t).1, (h.r1 t).2.1, set1_own (h.r1 t).2.2 hz⟩, r3 := fun t => ⟨(h.r3 t).1, (h.r3 t).2.1, set1_own (h.r3 t).2.2 hz⟩, r4 := fun t => ⟨(h.r4 t).1, (h.r4 t).2.1, fun u => set1_off ((h.r4 t).2.2.1 u) (h.ne t c5), fun u => set1_off ((h.r4 t).2.2.2 u) (h.ne t c5)⟩, r5 := fun t => ⟨(h.r5 t).1, (h.r5 t).2.1, fun _ => set1_box hz, fun e => (nomatch e)⟩, l7 := fun _ => ⟨c3, c5, c6⟩ }
end
/-- What the region leaves. -/
structure Res1 (A0 : Act) (w0 : World) (p q : SM1) (b c : Nat) (a : Act) (W : World) (m n : SM1) (zx zy : Nat) : Prop where
  fs : a.tmps.size = 86
  fd : a.defers = []
  sm : ∀ t, t ≠ 26 → t ≠ 27 → t ≠ 28 → t ≠ 29 → t ≠ 7 → t ≠ 8 → a.eval (.tmp t) = A0.eval (.tmp t)
  eb0 : a.eval (.tmp 7) = .pointer (some ⟨zx, 0, none⟩)
  eb1 : a.eval (.tmp 8) = .pointer (some ⟨zy, 0, none⟩)
  es0 : a.eval (.tmp 26) = p.val
  es1 : a.eval (.tmp 27) = m.val
  es2 : a.eval (.tmp 28) = q.val
  es3 : a.eval (.tmp 29) = n.val
  mp : m.seq = p.seq ∧ m.l = p.l
  nq : n.seq = q.seq ∧ n.l = q.l
  om : ∃ B, m.Own W B
  on : ∃ B, n.Own W B
  g1 : W.heap[b]? = some (p.obj 25)
  g2 : W.heap[c]? = some (q.obj 25)
  g3 : W.heap[zx]? = some (m.obj 30)
  g4 : W.heap[zy]? = some (n.obj 30)
  fr : Fresh w0 W
/-- The region, whatever order Go takes it in. -/
theorem region1 {A0 : Act} {w0 : World} {p q : SM1} {b c : Nat} {Q : Exit → Act → World → Prop} {W : World} (hp : p.At w0) (hq : q.At w0)
    (fs : A0.tmps.size = 86) (fd : A0.defers = []) (e2 : A0.eval (.tmp 3) = .pointer (some ⟨b, 0, none⟩)) (e3 : A0.eval (.tmp 4) = .pointer (some ⟨c, 0, none⟩)) (g1 : W.heap[b]? = some (p.obj 25)) (g2 : W.heap[c]? = some (q.obj 25)) (fr : Fresh w0 W) (bz : b < w0.heap.size) (cz : c < w0.heap.size)
    (hQ : ∀ a' W' m n zx zy, Res1 A0 w0 p q b c a' W' m n zx zy → Q .normal a' W') :
    wpAny Try.prog .any ops1 Q 8 #[false, false, false, false, false, false, false, false] A0 W := by
  refine any8 (IC1 A0 w0 p q b c) ?_ ?_ ?_ (fun _ _ _ _ _ _ _ _ _ _ h hr => step1_0 h hr) (fun _ _ _ _ _ _ _ _ _ _ h hr => step1_1 hp h hr) (fun _ _ _ _ _ _ _ _ _ _ h hr => step1_2 h hr) (fun _ _ _ _ _ _ _ _ _ _ h hr => step1_3 hq h hr) (fun _ _ _ _ _ _ _ _ _ _ h hr => step1_4 h hr) (fun _ _ _ _ _ _ _ _ _ _ h hr => step1_5 h hr) (fun _ _ _ _ _ _ _ _ _ _ h hr => step1_6 h hr) (fun _ _ _ _ _ _ _ _ _ _ h hr => step1_7 h hr) 8 _ _ _ _ _ _ _ _ A0 W (by decide) ⟨p, q, 0, 0, 0, 0, ?_⟩
  · intro d0 d1 d2 d3 d4 d5 d6 d7 a' W' h hr
    have hd := r1_done d0 d1 d2 d3 d4 d5 d6 d7 (by rw [hr]; rfl)
    simp only [Bool.and_eq_true] at hd
    obtain ⟨⟨⟨⟨⟨⟨⟨t0, t1⟩, t2⟩, t3⟩, t4⟩, t5⟩, t6⟩, t7⟩ := hd
    obtain ⟨m, n, zx, zy, Bm, Bn, h⟩ := h
    exact hQ a' W' m n zx zy ⟨h.fs, h.fd, h.sm, (h.r4 t4).1, (h.r5 t5).1, h.r0 t0, (h.r1 t1).1, h.r2 t2, (h.r3 t3).1, (h.r1 t1).2.1, (h.r3 t3).2.1, ⟨_, (h.r1 t1).2.2⟩, ⟨_, (h.r3 t3).2.2⟩, h.g1, h.g2, (h.r4 t4).2.2.1 t6, (h.r5 t5).2.2.1 t7, h.fr⟩
  · intro d0 d1 d2 d3 d4 d5 d6 d7 k hk
    have := List.all_eq_true.1 (r1_lt d0 d1 d2 d3 d4 d5 d6 d7) k hk
    simpa using this
  · decide +kernel
  · exact { fs := fs, fd := fd, sm := fun t _ _ _ _ _ _ => rfl, e2 := e2, e3 := e3, g1 := g1, g2 := g2, fr := fr, bz := bz, cz := cz, r0 := fun e => (nomatch e), r1 := fun e => (nomatch e), r2 := fun e => (nomatch e), r3 := fun e => (nomatch e), r4 := fun e => (nomatch e), r5 := fun e => (nomatch e), ne := fun e => (nomatch e), l6 := fun e => (nomatch e), l7 := fun e => (nomatch e) }
end Go.Proofs.Ytphjhlnjfcfdcaa
