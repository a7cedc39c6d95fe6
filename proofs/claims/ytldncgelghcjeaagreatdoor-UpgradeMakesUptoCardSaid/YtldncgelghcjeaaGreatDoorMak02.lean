/-
  Two states turned into the document's, in whatever order Go takes it (printed by genreg3.py.txt U).
  The boxes of bosunref20.Three: what was made so far, and the pod that is being made. (printed by genrthree.py.txt)
-/
import Derived.Test.YtldncgelghcjeaaGreatDoorMak01
import Derived.OrdersHeld
import Derived.Laws.World
import Derived.Test.YtldncgelghcjeaaGreatDoorUpd01
import Derived.Test.YtldncgelghcjeaaGreatDoorUpd02
import Derived.Test.YtldncgelghcjeaaGreatDoorCat06
set_option linter.unusedSimpArgs false
set_option linter.unusedVariables false
namespace Go.Proofs.YtldncgelghcjeaaGreatDoor.K
open Go.ChangeShapes Go.WideShapes Go.ChangeAt Go.RowKit
set_option maxRecDepth 100000

def oU_0 : Oper := { dst := some 16, op := Go.Op.load 63 (Go.Operand.tmp 2), type := 63, pos := "law.go:33", after := #[], guard := none }
def oU_1 : Oper := { dst := some 17, op := Go.Op.call { callee := Go.Callee.value (Go.Operand.func 27), args := #[Go.Operand.tmp 16], argTypes := #[63] }, type := 71, pos := "law.go:33", after := #[{ on := 0, ground := Go.Ground.data }], guard := none }
def oU_2 : Oper := { dst := some 18, op := Go.Op.load 66 (Go.Operand.tmp 3), type := 66, pos := "law.go:33", after := #[], guard := none }
def oU_3 : Oper := { dst := some 19, op := Go.Op.call { callee := Go.Callee.value (Go.Operand.func 28), args := #[Go.Operand.tmp 18], argTypes := #[66] }, type := 75, pos := "law.go:33", after := #[{ on := 2, ground := Go.Ground.data }, { on := 1, ground := Go.Ground.chain }], guard := none }
def oU_4 : Oper := { dst := some 5, op := Go.Op.alloc 71, type := 0, pos := "law.go:33", after := #[], guard := none }
def oU_5 : Oper := { dst := some 6, op := Go.Op.alloc 75, type := 0, pos := "law.go:33", after := #[], guard := none }
def oU_6 : Oper := { dst := none, op := Go.Op.store 71 (Go.Operand.tmp 5) (Go.Operand.tmp 17), type := 0, pos := "law.go:33", after := #[{ on := 4, ground := Go.Ground.data }, { on := 1, ground := Go.Ground.data }, { on := 3, ground := Go.Ground.chain }, { on := 0, ground := Go.Ground.phase }, { on := 1, ground := Go.Ground.phase }, { on := 2, ground := Go.Ground.textOnly Go.Departure.lateStores }, { on := 3, ground := Go.Ground.textOnly Go.Departure.lateStoresUnsure }, { on := 4, ground := Go.Ground.phase }, { on := 5, ground := Go.Ground.phase }], guard := none }
def oU_7 : Oper := { dst := none, op := Go.Op.store 75 (Go.Operand.tmp 6) (Go.Operand.tmp 19), type := 0, pos := "law.go:33", after := #[{ on := 5, ground := Go.Ground.data }, { on := 3, ground := Go.Ground.data }, { on := 6, ground := Go.Ground.chain }, { on := 0, ground := Go.Ground.phase }, { on := 1, ground := Go.Ground.phase }, { on := 2, ground := Go.Ground.phase }, { on := 3, ground := Go.Ground.phase }, { on := 4, ground := Go.Ground.phase }, { on := 5, ground := Go.Ground.phase }, { on := 6, ground := Go.Ground.phase }], guard := none }
def opsU : Array Oper := #[oU_0, oU_1, oU_2, oU_3, oU_4, oU_5, oU_6, oU_7]
theorem rU_done : ∀ d0 d1 d2 d3 d4 d5 d6 d7 : Bool, (Region.ready .any opsU #[d0, d1, d2, d3, d4, d5, d6, d7]).isEmpty = true → (d0 && d1 && d2 && d3 && d4 && d5 && d6 && d7) = true := by decide +kernel
theorem rU_1 : ∀ d0 d1 d2 d3 d4 d5 d6 d7 : Bool, (Region.ready .any opsU #[d0, d1, d2, d3, d4, d5, d6, d7]).contains 1 = true → (!d1 && d0) = true := by decide +kernel
theorem rU_3 : ∀ d0 d1 d2 d3 d4 d5 d6 d7 : Bool, (Region.ready .any opsU #[d0, d1, d2, d3, d4, d5, d6, d7]).contains 3 = true → (!d3 && d2 && d1) = true := by decide +kernel
theorem rU_4 : ∀ d0 d1 d2 d3 d4 d5 d6 d7 : Bool, (Region.ready .any opsU #[d0, d1, d2, d3, d4, d5, d6, d7]).contains 4 = true → (!d4) = true := by decide +kernel
theorem rU_5 : ∀ d0 d1 d2 d3 d4 d5 d6 d7 : Bool, (Region.ready .any opsU #[d0, d1, d2, d3, d4, d5, d6, d7]).contains 5 = true → (!d5) = true := by decide +kernel
theorem rU_6 : ∀ d0 d1 d2 d3 d4 d5 d6 d7 : Bool, (Region.ready .any opsU #[d0, d1, d2, d3, d4, d5, d6, d7]).contains 6 = true → (!d6 && d4 && d1 && d3) = true := by decide +kernel
theorem rU_7 : ∀ d0 d1 d2 d3 d4 d5 d6 d7 : Bool, (Region.ready .any opsU #[d0, d1, d2, d3, d4, d5, d6, d7]).contains 7 = true → (!d7 && d5 && d3 && d6) = true := by decide +kernel
theorem rU_lt : ∀ d0 d1 d2 d3 d4 d5 d6 d7 : Bool, (Region.ready .any opsU #[d0, d1, d2, d3, d4, d5, d6, d7]).all (fun k => decide (k < 8)) = true := by decide +kernel
abbrev zeroa : Obj := .cells #[.int .u32 0, .slice none 0 0] 71
abbrev zerob : Obj := .cells #[.int .u64 0, .slice none 0 0] 75
/-- The two stores of a state into a box. -/
def setU (W : World) (z : Nat) (p : SMU) : World := (W.setCell ⟨z, 0, none⟩ (.int p.k p.seq)).setCell ⟨z, 1, none⟩ (.slice p.a p.len p.c)
theorem setU_box {W : World} {z t : Nat} {x : SMU} {u v : Value} (h : W.heap[z]? = some (.cells #[u, v] t)) : (setU W z x).heap[z]? = some (x.obj t) := at_set (at_set h 0 _) 1 _
theorem setU_off {W : World} {z g : Nat} {x : SMU} {o : Obj} (h : W.heap[g]? = some o) (hne : g ≠ z) : (setU W z x).heap[g]? = some o := at_off (at_off h hne _) hne _
theorem setU_own {W : World} {z B t n c : Nat} {x y : SMU} {k : IntKind} {s : Int} {a : Option Addr} (h : y.Own W B) (hk : k ≠ .i64) (hz : W.heap[z]? = some (.cells #[.int k s, .slice a n c] t)) : y.Own (setU W z x) B :=
  ownU_set (ownU_set h hk hz 0 _) x.kne (at_set hz 0 _) 1 _
theorem setU_fresh {w W : World} {z : Nat} {x : SMU} (f : Fresh w W) (hz : w.heap.size ≤ z) : Fresh w (setU W z x) := (f.setCell (p := ⟨z, 0, none⟩) hz _).setCell (p := ⟨z, 1, none⟩) hz _
/-- What holds between the operations. -/
structure IRU (A0 : Act) (w0 : World) (p q : SMU) (b c : Nat) (d0 d1 d2 d3 d4 d5 d6 d7 : Bool) (a : Act) (W : World) (m n : SMU) (zx zy Bm Bn : Nat) : Prop where
  fs : a.tmps.size = 46
  fd : a.defers = []
  sm : ∀ t, t ≠ 16 → t ≠ 17 → t ≠ 18 → t ≠ 19 → t ≠ 5 → t ≠ 6 → a.eval (.tmp t) = A0.eval (.tmp t)
  e2 : a.eval (.tmp 2) = .pointer (some ⟨b, 0, none⟩)
  e3 : a.eval (.tmp 3) = .pointer (some ⟨c, 0, none⟩)
  g1 : W.heap[b]? = some (p.obj 63)
  g2 : W.heap[c]? = some (q.obj 66)
  fr : Fresh w0 W
  bz : b < w0.heap.size
  cz : c < w0.heap.size
  r0 : d0 = true → a.eval (.tmp 16) = p.val
  r1 : d1 = true → a.eval (.tmp 17) = m.val ∧ (m.seq = p.seq ∧ m.l = p.l) ∧ m.Own W Bm
  r2 : d2 = true → a.eval (.tmp 18) = q.val
  r3 : d3 = true → a.eval (.tmp 19) = n.val ∧ (n.seq = q.seq ∧ n.l = q.l) ∧ n.Own W Bn
  r4 : d4 = true → a.eval (.tmp 5) = .pointer (some ⟨zx, 0, none⟩) ∧ w0.heap.size ≤ zx ∧ (d6 = true → W.heap[zx]? = some (m.obj 71)) ∧ (d6 = false → W.heap[zx]? = some zeroa)
  r5 : d5 = true → a.eval (.tmp 6) = .pointer (some ⟨zy, 0, none⟩) ∧ w0.heap.size ≤ zy ∧ (d7 = true → W.heap[zy]? = some (n.obj 75)) ∧ (d7 = false → W.heap[zy]? = some zerob)
  ne : d4 = true → d5 = true → zx ≠ zy
  l6 : d6 = true → d1 = true ∧ d4 = true
  l7 : d7 = true → d3 = true ∧ d5 = true ∧ d6 = true

theorem runU_0 {a : Act} {W : World} {b : Nat} {p : SMU} (e : a.eval (.tmp 2) = .pointer (some ⟨b, 0, none⟩)) (g : W.heap[b]? = some (p.obj 63)) : (execOp a.eval oU_0).run Tryz.prog W = .ok (.value p.val) W := by
  have c0 := cell_of_at g (i := 0) rfl
  have c1 := cell_of_at g (i := 1) rfl
  have e := ev_get e
  simp [execOp, oU_0, e, go_sem, c0, c1, SMU.val]
theorem runU_2 {a : Act} {W : World} {b : Nat} {p : SMU} (e : a.eval (.tmp 3) = .pointer (some ⟨b, 0, none⟩)) (g : W.heap[b]? = some (p.obj 66)) : (execOp a.eval oU_2).run Tryz.prog W = .ok (.value p.val) W := by
  have c0 := cell_of_at g (i := 0) rfl
  have c1 := cell_of_at g (i := 1) rfl
  have e := ev_get e
  simp [execOp, oU_2, e, go_sem, c0, c1, SMU.val]
theorem runU_1 {a : Act} {W : World} {v : Value} (e : a.eval (.tmp 16) = v) : (execOp a.eval oU_1).run Tryz.prog W = .ok (.enter 27 #[v]) W := by
  have e := ev_get e
  simp [execOp, oU_1, e, go_sem]
theorem runU_3 {a : Act} {W : World} {v : Value} (e : a.eval (.tmp 18) = v) : (execOp a.eval oU_3).run Tryz.prog W = .ok (.enter 28 #[v]) W := by
  have e := ev_get e
  simp [execOp, oU_3, e, go_sem]
theorem runU_4 {a : Act} {W : World} : (execOp a.eval oU_4).run Tryz.prog W = .ok (.value (.pointer (some ⟨W.heap.size, 0, none⟩))) (W.alloc zeroa) := by
  simp [execOp, oU_4, go_sem]
theorem runU_5 {a : Act} {W : World} : (execOp a.eval oU_5).run Tryz.prog W = .ok (.value (.pointer (some ⟨W.heap.size, 0, none⟩))) (W.alloc zerob) := by
  simp [execOp, oU_5, go_sem]
theorem runU_6 {a : Act} {W : World} {z : Nat} {p : SMU} (e : a.eval (.tmp 5) = .pointer (some ⟨z, 0, none⟩)) (e' : a.eval (.tmp 17) = p.val) (g : W.heap[z]? = some zeroa) : (execOp a.eval oU_6).run Tryz.prog W = .ok .skip (setU W z p) := by
  have c0 := cell_of_at g (i := 0) rfl
  have c1 := cell_of_at g (i := 1) rfl
  have f0 := frozen_of_at g 0
  have f1 := frozen_of_at g 1
  have e := ev_get e
  have e' := ev_get e'
  simp [execOp, oU_6, e, e', go_sem, c0, c1, f0, f1, setU, SMU.val]
theorem runU_7 {a : Act} {W : World} {z : Nat} {p : SMU} (e : a.eval (.tmp 6) = .pointer (some ⟨z, 0, none⟩)) (e' : a.eval (.tmp 19) = p.val) (g : W.heap[z]? = some zerob) : (execOp a.eval oU_7).run Tryz.prog W = .ok .skip (setU W z p) := by
  have c0 := cell_of_at g (i := 0) rfl
  have c1 := cell_of_at g (i := 1) rfl
  have f0 := frozen_of_at g 0
  have f1 := frozen_of_at g 1
  have e := ev_get e
  have e' := ev_get e'
  simp [execOp, oU_7, e, e', go_sem, c0, c1, f0, f1, setU, SMU.val]
def ICU (A0 : Act) (w0 : World) (p q : SMU) (b c : Nat) (d0 d1 d2 d3 d4 d5 d6 d7 : Bool) (a : Act) (W : World) : Prop := ∃ m n zx zy Bm Bn, IRU A0 w0 p q b c d0 d1 d2 d3 d4 d5 d6 d7 a W m n zx zy Bm Bn
section
variable {A0 : Act} {w0 : World} {p q : SMU} {b c : Nat} {Q : Exit → Act → World → Prop} {d0 d1 d2 d3 d4 d5 d6 d7 : Bool} {a : Act} {W : World}
theorem IRU.lt4 {m n : SMU} {zx zy Bm Bn : Nat} (h : IRU A0 w0 p q b c d0 d1 d2 d3 d4 d5 d6 d7 a W m n zx zy Bm Bn) (t : d4 = true) : zx < W.heap.size := by
  rcases Bool.eq_false_or_eq_true d6 with u | u
  · exact lt_of_at ((h.r4 t).2.2.1 u)
  · exact lt_of_at ((h.r4 t).2.2.2 u)
theorem IRU.lt5 {m n : SMU} {zx zy Bm Bn : Nat} (h : IRU A0 w0 p q b c d0 d1 d2 d3 d4 d5 d6 d7 a W m n zx zy Bm Bn) (t : d5 = true) : zy < W.heap.size := by
  rcases Bool.eq_false_or_eq_true d7 with u | u
  · exact lt_of_at ((h.r5 t).2.2.1 u)
  · exact lt_of_at ((h.r5 t).2.2.2 u)
theorem stepU_0 (h : ICU A0 w0 p q b c d0 d1 d2 d3 d4 d5 d6 d7 a W) (_ : 0 ∈ Region.ready .any opsU #[d0, d1, d2, d3, d4, d5, d6, d7]) : wpOp Tryz.prog opsU Q 0 (ICU A0 w0 p q b c true d1 d2 d3 d4 d5 d6 d7) a W := by
  obtain ⟨m, n, zx, zy, Bm, Bn, h⟩ := h
  refine wpOp_run (o := oU_0) rfl rfl (runU_0 h.e2 h.g1) ⟨m, n, zx, zy, Bm, Bn, ?_⟩
  show IRU A0 w0 p q b c true d1 d2 d3 d4 d5 d6 d7 (a.put (some 16) _) W m n zx zy Bm Bn
  exact { fs := by rw [put_size]; exact h.fs, fd := by rw [put_defers]; exact h.fd, sm := fun t n0 n1 n2 n3 n4 n5 => (ev_ne (d := 16) (Ne.symm n0)).trans (h.sm t n0 n1 n2 n3 n4 n5), e2 := (ev_ne (d := 16) (t := 2) (by decide)).trans h.e2, e3 := (ev_ne (d := 16) (t := 3) (by decide)).trans h.e3, g1 := h.g1, g2 := h.g2, fr := h.fr, bz := h.bz, cz := h.cz, r0 := fun _ => ev_same (by rw [h.fs]; decide), r1 := fun t => ⟨(ev_ne (d := 16) (t := 17) (by decide)).trans (h.r1 t).1, (h.r1 t).2.1, (h.r1 t).2.2⟩, r2 := fun t => (ev_ne (d := 16) (t := 18) (by decide)).trans (h.r2 t), r3 := fun t => ⟨(ev_ne (d := 16) (t := 19) (by decide)).trans (h.r3 t).1, (h.r3 t).2.1, (h.r3 t).2.2⟩, r4 := fun t => ⟨(ev_ne (d := 16) (t := 5) (by decide)).trans (h.r4 t).1, (h.r4 t).2.1, fun u => (h.r4 t).2.2.1 u, fun u => (h.r4 t).2.2.2 u⟩, r5 := fun t => ⟨(ev_ne (d := 16) (t := 6) (by decide)).trans (h.r5 t).1, (h.r5 t).2.1, fun u => (h.r5 t).2.2.1 u, fun u => (h.r5 t).2.2.2 u⟩, ne := h.ne, l6 := h.l6, l7 := h.l7 }
theorem stepU_2 (h : ICU A0 w0 p q b c d0 d1 d2 d3 d4 d5 d6 d7 a W) (_ : 2 ∈ Region.ready .any opsU #[d0, d1, d2, d3, d4, d5, d6, d7]) : wpOp Tryz.prog opsU Q 2 (ICU A0 w0 p q b c d0 d1 true d3 d4 d5 d6 d7) a W := by
  obtain ⟨m, n, zx, zy, Bm, Bn, h⟩ := h
  refine wpOp_run (o := oU_2) rfl rfl (runU_2 h.e3 h.g2) ⟨m, n, zx, zy, Bm, Bn, ?_⟩
  show IRU A0 w0 p q b c d0 d1 true d3 d4 d5 d6 d7 (a.put (some 18) _) W m n zx zy Bm Bn
  exact { fs := by rw [put_size]; exact h.fs, fd := by rw [put_defers]; exact h.fd, sm := fun t n0 n1 n2 n3 n4 n5 => (ev_ne (d := 18) (Ne.symm n2)).trans (h.sm t n0 n1 n2 n3 n4 n5), e2 := (ev_ne (d := 18) (t := 2) (by decide)).trans h.e2, e3 := (ev_ne (d := 18) (t := 3) (by decide)).trans h.e3, g1 := h.g1, g2 := h.g2, fr := h.fr, bz := h.bz, cz := h.cz, r0 := fun t => (ev_ne (d := 18) (t := 16) (by decide)).trans (h.r0 t), r1 := fun t => ⟨(ev_ne (d := 18) (t := 17) (by decide)).trans (h.r1 t).1, (h.r1 t).2.1, (h.r1 t).2.2⟩, r2 := fun _ => ev_same (by rw [h.fs]; decide), r3 := fun t => ⟨(ev_ne (d := 18) (t := 19) (by decide)).trans (h.r3 t).1, (h.r3 t).2.1, (h.r3 t).2.2⟩, r4 := fun t => ⟨(ev_ne (d := 18) (t := 5) (by decide)).trans (h.r4 t).1, (h.r4 t).2.1, fun u => (h.r4 t).2.2.1 u, fun u => (h.r4 t).2.2.2 u⟩, r5 := fun t => ⟨(ev_ne (d := 18) (t := 6) (by decide)).trans (h.r5 t).1, (h.r5 t).2.1, fun u => (h.r5 t).2.2.1 u, fun u => (h.r5 t).2.2.2 u⟩, ne := h.ne, l6 := h.l6, l7 := h.l7 }
theorem stepU_1 (hp : p.AtA w0) (h : ICU A0 w0 p q b c d0 d1 d2 d3 d4 d5 d6 d7 a W) (hr : 1 ∈ Region.ready .any opsU #[d0, d1, d2, d3, d4, d5, d6, d7]) : wpOp Tryz.prog opsU Q 1 (ICU A0 w0 p q b c d0 true d2 d3 d4 d5 d6 d7) a W := by
  have hc := rU_1 d0 d1 d2 d3 d4 d5 d6 d7 (List.contains_iff_mem.2 hr)
  obtain ⟨m, n, zx, zy, Bm, Bn, h⟩ := h
  simp only [Bool.and_eq_true] at hc
  obtain ⟨c1, c0⟩ := hc
  have n6 : d6 = true → False := fun e => no_case c1 (h.l6 e).1
  refine wpOp_call2 (o := oU_1) rfl rfl (runU_1 (h.r0 c0)) (ofA_own p w0 W hp h.fr) ?_
  rintro e V ⟨x, rfl, hx, ho, hf⟩
  refine ⟨_, rfl, x, n, zx, zy, W.heap.size, Bn, ?_⟩
  show IRU A0 w0 p q b c d0 true d2 d3 d4 d5 d6 d7 (a.put (some 17) _) V x n zx zy W.heap.size Bn
  exact { fs := by rw [put_size]; exact h.fs, fd := by rw [put_defers]; exact h.fd, sm := fun t n0 n1 n2 n3 n4 n5 => (ev_ne (d := 17) (Ne.symm n1)).trans (h.sm t n0 n1 n2 n3 n4 n5), e2 := (ev_ne (d := 17) (t := 2) (by decide)).trans h.e2, e3 := (ev_ne (d := 17) (t := 3) (by decide)).trans h.e3, g1 := (Fresh.at hf (h.g1)), g2 := (Fresh.at hf (h.g2)), fr := h.fr.trans hf, bz := h.bz, cz := h.cz, r0 := fun t => (ev_ne (d := 17) (t := 16) (by decide)).trans (h.r0 t), r1 := fun _ => ⟨ev_same (by rw [h.fs]; decide), hx, ho⟩, r2 := fun t => (ev_ne (d := 17) (t := 18) (by decide)).trans (h.r2 t), r3 := fun t => ⟨(ev_ne (d := 17) (t := 19) (by decide)).trans (h.r3 t).1, (h.r3 t).2.1, (ownU_fresh ((h.r3 t).2.2) hf)⟩, r4 := fun t => ⟨(ev_ne (d := 17) (t := 5) (by decide)).trans (h.r4 t).1, (h.r4 t).2.1, fun u => (n6 u).elim, fun u => (Fresh.at hf ((h.r4 t).2.2.2 u))⟩, r5 := fun t => ⟨(ev_ne (d := 17) (t := 6) (by decide)).trans (h.r5 t).1, (h.r5 t).2.1, fun u => (Fresh.at hf ((h.r5 t).2.2.1 u)), fun u => (Fresh.at hf ((h.r5 t).2.2.2 u))⟩, ne := h.ne, l6 := fun e => ⟨rfl, (h.l6 e).2⟩, l7 := h.l7 }
theorem stepU_3 (hq : q.AtB w0) (h : ICU A0 w0 p q b c d0 d1 d2 d3 d4 d5 d6 d7 a W) (hr : 3 ∈ Region.ready .any opsU #[d0, d1, d2, d3, d4, d5, d6, d7]) : wpOp Tryz.prog opsU Q 3 (ICU A0 w0 p q b c d0 d1 d2 true d4 d5 d6 d7) a W := by
  have hc := rU_3 d0 d1 d2 d3 d4 d5 d6 d7 (List.contains_iff_mem.2 hr)
  obtain ⟨m, n, zx, zy, Bm, Bn, h⟩ := h
  simp only [Bool.and_eq_true] at hc
  obtain ⟨⟨c3, c2⟩, c1⟩ := hc
  have n7 : d7 = true → False := fun e => no_case c3 (h.l7 e).1
  refine wpOp_call2 (o := oU_3) rfl rfl (runU_3 (h.r2 c2)) (ofB_own q w0 W hq h.fr) ?_
  rintro e V ⟨x, rfl, hx, ho, hf⟩
  refine ⟨_, rfl, m, x, zx, zy, Bm, W.heap.size, ?_⟩
  show IRU A0 w0 p q b c d0 d1 d2 true d4 d5 d6 d7 (a.put (some 19) _) V m x zx zy Bm W.heap.size
  exact { fs := by rw [put_size]; exact h.fs, fd := by rw [put_defers]; exact h.fd, sm := fun t n0 n1 n2 n3 n4 n5 => (ev_ne (d := 19) (Ne.symm n3)).trans (h.sm t n0 n1 n2 n3 n4 n5), e2 := (ev_ne (d := 19) (t := 2) (by decide)).trans h.e2, e3 := (ev_ne (d := 19) (t := 3) (by decide)).trans h.e3, g1 := (Fresh.at hf (h.g1)), g2 := (Fresh.at hf (h.g2)), fr := h.fr.trans hf, bz := h.bz, cz := h.cz, r0 := fun t => (ev_ne (d := 19) (t := 16) (by decide)).trans (h.r0 t), r1 := fun t => ⟨(ev_ne (d := 19) (t := 17) (by decide)).trans (h.r1 t).1, (h.r1 t).2.1, (ownU_fresh ((h.r1 t).2.2) hf)⟩, r2 := fun t => (ev_ne (d := 19) (t := 18) (by decide)).trans (h.r2 t), r3 := fun _ => ⟨ev_same (by rw [h.fs]; decide), hx, ho⟩, r4 := fun t => ⟨(ev_ne (d := 19) (t := 5) (by decide)).trans (h.r4 t).1, (h.r4 t).2.1, fun u => (Fresh.at hf ((h.r4 t).2.2.1 u)), fun u => (Fresh.at hf ((h.r4 t).2.2.2 u))⟩, r5 := fun t => ⟨(ev_ne (d := 19) (t := 6) (by decide)).trans (h.r5 t).1, (h.r5 t).2.1, fun u => (n7 u).elim, fun u => (Fresh.at hf ((h.r5 t).2.2.2 u))⟩, ne := h.ne, l6 := h.l6, l7 := fun e => ⟨rfl, (h.l7 e).2.1, (h.l7 e).2.2⟩ }
theorem stepU_4 (h : ICU A0 w0 p q b c d0 d1 d2 d3 d4 d5 d6 d7 a W) (hr : 4 ∈ Region.ready .any opsU #[d0, d1, d2, d3, d4, d5, d6, d7]) : wpOp Tryz.prog opsU Q 4 (ICU A0 w0 p q b c d0 d1 d2 d3 true d5 d6 d7) a W := by
  have hc := rU_4 d0 d1 d2 d3 d4 d5 d6 d7 (List.contains_iff_mem.2 hr)
  obtain ⟨m, n, zx, zy, Bm, Bn, h⟩ := h
  have n6 : d6 = true → False := fun e => no_case hc (h.l6 e).2
  have hf : Fresh W (W.alloc zeroa) := (Fresh.refl W).alloc zeroa
  refine wpOp_run (o := oU_4) rfl rfl runU_4 ⟨m, n, W.heap.size, zy, Bm, Bn, ?_⟩
  show IRU A0 w0 p q b c d0 d1 d2 d3 true d5 d6 d7 (a.put (some 5) _) (W.alloc zeroa) m n W.heap.size zy Bm Bn
  exact { fs := by rw [put_size]; exact h.fs, fd := by rw [put_defers]; exact h.fd, sm := fun t n0 n1 n2 n3 n4 n5 => (ev_ne (d := 5) (Ne.symm n4)).trans (h.sm t n0 n1 n2 n3 n4 n5), e2 := (ev_ne (d := 5) (t := 2) (by decide)).trans h.e2, e3 := (ev_ne (d := 5) (t := 3) (by decide)).trans h.e3, g1 := (Fresh.at hf (h.g1)), g2 := (Fresh.at hf (h.g2)), fr := h.fr.trans hf, bz := h.bz, cz := h.cz, r0 := fun t => (ev_ne (d := 5) (t := 16) (by decide)).trans (h.r0 t), r1 := fun t => ⟨(ev_ne (d := 5) (t := 17) (by decide)).trans (h.r1 t).1, (h.r1 t).2.1, (ownU_fresh ((h.r1 t).2.2) hf)⟩, r2 := fun t => (ev_ne (d := 5) (t := 18) (by decide)).trans (h.r2 t), r3 := fun t => ⟨(ev_ne (d := 5) (t := 19) (by decide)).trans (h.r3 t).1, (h.r3 t).2.1, (ownU_fresh ((h.r3 t).2.2) hf)⟩, r4 := fun _ => ⟨ev_same (by rw [h.fs]; decide), h.fr.size, fun u => (n6 u).elim, fun _ => at_new W zeroa⟩, r5 := fun t => ⟨(ev_ne (d := 5) (t := 6) (by decide)).trans (h.r5 t).1, (h.r5 t).2.1, fun u => (Fresh.at hf ((h.r5 t).2.2.1 u)), fun u => (Fresh.at hf ((h.r5 t).2.2.2 u))⟩, ne := fun _ t => Nat.ne_of_gt (h.lt5 t), l6 := fun e => ⟨(h.l6 e).1, rfl⟩, l7 := h.l7 }
theorem stepU_5 (h : ICU A0 w0 p q b c d0 d1 d2 d3 d4 d5 d6 d7 a W) (hr : 5 ∈ Region.ready .any opsU #[d0, d1, d2, d3, d4, d5, d6, d7]) : wpOp Tryz.prog opsU Q 5 (ICU A0 w0 p q b c d0 d1 d2 d3 d4 true d6 d7) a W := by
  have hc := rU_5 d0 d1 d2 d3 d4 d5 d6 d7 (List.contains_iff_mem.2 hr)
  obtain ⟨m, n, zx, zy, Bm, Bn, h⟩ := h
  have n7 : d7 = true → False := fun e => no_case hc (h.l7 e).2.1
  have hf : Fresh W (W.alloc zerob) := (Fresh.refl W).alloc zerob
  refine wpOp_run (o := oU_5) rfl rfl runU_5 ⟨m, n, zx, W.heap.size, Bm, Bn, ?_⟩
  show IRU A0 w0 p q b c d0 d1 d2 d3 d4 true d6 d7 (a.put (some 6) _) (W.alloc zerob) m n zx W.heap.size Bm Bn
  exact { fs := by rw [put_size]; exact h.fs, fd := by rw [put_defers]; exact h.fd, sm := fun t n0 n1 n2 n3 n4 n5 => (ev_ne (d := 6) (Ne.symm n5)).trans (h.sm t n0 n1 n2 n3 n4 n5), e2 := (ev_ne (d := 6) (t := 2) (by decide)).trans h.e2, e3 := (ev_ne (d := 6) (t := 3) (by decide)).trans h.e3, g1 := (Fresh.at hf (h.g1)), g2 := (Fresh.at hf (h.g2)), fr := h.fr.trans hf, bz := h.bz, cz := h.cz, r0 := fun t => (ev_ne (d := 6) (t := 16) (by decide)).trans (h.r0 t), r1 := fun t => ⟨(ev_ne (d := 6) (t := 17) (by decide)).trans (h.r1 t).1, (h.r1 t).2.1, (ownU_fresh ((h.r1 t).2.2) hf)⟩, r2 := fun t => (ev_ne (d := 6) (t := 18) (by decide)).trans (h.r2 t), r3 := fun t => ⟨(ev_ne (d := 6) (t := 19) (by decide)).trans (h.r3 t).1, (h.r3 t).2.1, (ownU_fresh ((h.r3 t).2.2) hf)⟩, r4 := fun t => ⟨(ev_ne (d := 6) (t := 5) (by decide)).trans (h.r4 t).1, (h.r4 t).2.1, fun u => (Fresh.at hf ((h.r4 t).2.2.1 u)), fun u => (Fresh.at hf ((h.r4 t).2.2.2 u))⟩, r5 := fun _ => ⟨ev_same (by rw [h.fs]; decide), h.fr.size, fun u => (n7 u).elim, fun _ => at_new W zerob⟩, ne := fun t _ => Nat.ne_of_lt (h.lt4 t), l6 := h.l6, l7 := fun e => ⟨(h.l7 e).1, rfl, (h.l7 e).2.2⟩ }
theorem stepU_6 (h : ICU A0 w0 p q b c d0 d1 d2 d3 d4 d5 d6 d7 a W) (hr : 6 ∈ Region.ready .any opsU #[d0, d1, d2, d3, d4, d5, d6, d7]) : wpOp Tryz.prog opsU Q 6 (ICU A0 w0 p q b c d0 d1 d2 d3 d4 d5 true d7) a W := by
  have hc := rU_6 d0 d1 d2 d3 d4 d5 d6 d7 (List.contains_iff_mem.2 hr)
  obtain ⟨m, n, zx, zy, Bm, Bn, h⟩ := h
  simp only [Bool.and_eq_true] at hc
  obtain ⟨⟨⟨c6, c4⟩, c1⟩, c3⟩ := hc
  have e6 : d6 = false := by simpa using c6
  have hz := (h.r4 c4).2.2.2 e6
  have hzw := (h.r4 c4).2.1
  have nb : b ≠ zx := Nat.ne_of_lt (Nat.lt_of_lt_of_le h.bz hzw)
  have nc : c ≠ zx := Nat.ne_of_lt (Nat.lt_of_lt_of_le h.cz hzw)
  refine wpOp_skip (o := oU_6) rfl rfl rfl (runU_6 (h.r4 c4).1 (h.r1 c1).1 hz) ⟨m, n, zx, zy, Bm, Bn, ?_⟩
  exact { h with g1 := setU_off h.g1 nb, g2 := setU_off h.g2 nc, fr := setU_fresh h.fr hzw, r1 := fun t => ⟨(h.r1 t).1, (h.r1 t).2.1, setU_own (h.r1 t).2.2 (by decide) hz⟩, r3 := fun t => ⟨(h.r3 t).1, (h.r3 t).2.1, setU_own (h.r3 t).2.2 (by decide) hz⟩, r4 := fun t => ⟨(h.r4 t).1, (h.r4 t).2.1, fun _ => setU_box hz, fun e => (nomatch e)⟩, r5 := fun t => ⟨(h.r5 t).1, (h.r5 t).2.1, fun u => setU_off ((h.r5 t).2.2.1 u) (Ne.symm (h.ne c4 t)), fun u => setU_off ((h.r5 t).2.2.2 u) (Ne.symm (h.ne c4 t))⟩, l6 := fun _ => ⟨c1, c4⟩, l7 := fun e => ⟨(h.l7 e).1, (h.l7 e).2.1, rfl⟩ }
theorem stepU_7 (h : ICU A0 w0 p q b c d0 d1 d2 d3 d4 d5 d6 d7 a W) (hr : 7 ∈ Region.ready .any opsU #[d0, d1, d2, d3, d4, d5, d6, d7]) : wpOp Tryz.prog opsU Q 7 (ICU A0 w0 p q b c d0 d1 d2 d3 d4 d5 d6 true) a W := by
  have hc := rU_7 d0 d1 d2 d3 d4 d5 d6 d7 (List.contains_iff_mem.2 hr)
  obtain ⟨m, n, zx, zy, Bm, Bn, h⟩ := h
  simp only [Bool.and_eq_true] at hc
  obtain ⟨⟨⟨c7, c5⟩, c3⟩, c6⟩ := hc
  have e7 : d7 = false := by simpa using c7
  have hz := (h.r5 c5).2.2.2 e7
  have hzw := (h.r5 c5).2.1
  have nb : b ≠ zy := Nat.ne_of_lt (Nat.lt_of_lt_of_le h.bz hzw)
  have nc : c ≠ zy := Nat.ne_of_lt (Nat.lt_of_lt_of_le h.cz hzw)
  refine wpOp_skip (o := oU_7) rfl rfl rfl (runU_7 (h.r5 c5).1 (h.r3 c3).1 hz) ⟨m, n, zx, zy, Bm, Bn, ?_⟩
  exact { h with g1 := setU_off h.g1 nb, g2 := setU_off h.g2 nc, fr := setU_fresh h.fr hzw, r1 := fun t => ⟨(h.r1 t).1, (h.r1 t).2.1, setU_own (h.r1 t).2.2 (by decide) hz⟩, r3 := fun t => ⟨(h.r3 t).1, (h.r3 t).2.1, setU_own (h.r3 t).2.2 (by decide) hz⟩, r4 := fun t => ⟨(h.r4 t).1, (h.r4 t).2.1, fun u => setU_off ((h.r4 t).2.2.1 u) (h.ne t c5), fun u => setU_off ((h.r4 t).2.2.2 u) (h.ne t c5)⟩, r5 := fun t => ⟨(h.r5 t).1, (h.r5 t).2.1, fun _ => setU_box hz, fun e => (nomatch e)⟩, l7 := fun _ => ⟨c3, c5, c6⟩ }
end
/-- What the region leaves. -/
structure ResU (A0 : Act) (w0 : World) (p q : SMU) (b c : Nat) (a : Act) (W : World) (m n : SMU) (zx zy : Nat) : Prop where
  fs : a.tmps.size = 46
  fd : a.defers = []
  sm : ∀ t, t ≠ 16 → t ≠ 17 → t ≠ 18 → t ≠ 19 → t ≠ 5 → t ≠ 6 → a.eval (.tmp t) = A0.eval (.tmp t)
  eb0 : a.eval (.tmp 5) = .pointer (some ⟨zx, 0, none⟩)
  eb1 : a.eval (.tmp 6) = .pointer (some ⟨zy, 0, none⟩)
  es0 : a.eval (.tmp 16) = p.val
  es1 : a.eval (.tmp 17) = m.val
  es2 : a.eval (.tmp 18) = q.val
  es3 : a.eval (.tmp 19) = n.val
  mp : m.seq = p.seq ∧ m.l = p.l
  nq : n.seq = q.seq ∧ n.l = q.l
  om : ∃ B, m.Own W B
  on : ∃ B, n.Own W B
  g1 : W.heap[b]? = some (p.obj 63)
  g2 : W.heap[c]? = some (q.obj 66)
  g3 : W.heap[zx]? = some (m.obj 71)
  g4 : W.heap[zy]? = some (n.obj 75)
  fr : Fresh w0 W
/-- The region, whatever order Go takes it in. -/
theorem regionU {A0 : Act} {w0 : World} {p q : SMU} {b c : Nat} {Q : Exit → Act → World → Prop} {W : World} (hp : p.AtA w0) (hq : q.AtB w0)
    (fs : A0.tmps.size = 46) (fd : A0.defers = []) (e2 : A0.eval (.tmp 2) = .pointer (some ⟨b, 0, none⟩)) (e3 : A0.eval (.tmp 3) = .pointer (some ⟨c, 0, none⟩)) (g1 : W.heap[b]? = some (p.obj 63)) (g2 : W.heap[c]? = some (q.obj 66)) (fr : Fresh w0 W) (bz : b < w0.heap.size) (cz : c < w0.heap.size)
    (hQ : ∀ a' W' m n zx zy, ResU A0 w0 p q b c a' W' m n zx zy → Q .normal a' W') :
    wpAny Tryz.prog .any opsU Q 8 #[false, false, false, false, false, false, false, false] A0 W := by
  refine any8 (ICU A0 w0 p q b c) ?_ ?_ ?_ (fun _ _ _ _ _ _ _ _ _ _ h hr => stepU_0 h hr) (fun _ _ _ _ _ _ _ _ _ _ h hr => stepU_1 hp h hr) (fun _ _ _ _ _ _ _ _ _ _ h hr => stepU_2 h hr) (fun _ _ _ _ _ _ _ _ _ _ h hr => stepU_3 hq h hr) (fun _ _ _ _ _ _ _ _ _ _ h hr => stepU_4 h hr) (fun _ _ _ _ _ _ _ _ _ _ h hr => stepU_5 h hr) (fun _ _ _ _ _ _ _ _ _ _ h hr => stepU_6 h hr) (fun _ _ _ _ _ _ _ _ _ _ h hr => stepU_7 h hr) 8 _ _ _ _ _ _ _ _ A0 W (by decide) ⟨p, q, 0, 0, 0, 0, ?_⟩
  · intro d0 d1 d2 d3 d4 d5 d6 d7 a' W' h hr
    have hd := rU_done d0 d1 d2 d3 d4 d5 d6 d7 (by rw [hr]; rfl)
    simp only [Bool.and_eq_true] at hd
    obtain ⟨⟨⟨⟨⟨⟨⟨t0, t1⟩, t2⟩, t3⟩, t4⟩, t5⟩, t6⟩, t7⟩ := hd
    obtain ⟨m, n, zx, zy, Bm, Bn, h⟩ := h
    exact hQ a' W' m n zx zy ⟨h.fs, h.fd, h.sm, (h.r4 t4).1, (h.r5 t5).1, h.r0 t0, (h.r1 t1).1, h.r2 t2, (h.r3 t3).1, (h.r1 t1).2.1, (h.r3 t3).2.1, ⟨_, (h.r1 t1).2.2⟩, ⟨_, (h.r3 t3).2.2⟩, h.g1, h.g2, (h.r4 t4).2.2.1 t6, (h.r5 t5).2.2.1 t7, h.fr⟩
  · intro d0 d1 d2 d3 d4 d5 d6 d7 k hk
    have := List.all_eq_true.1 (rU_lt d0 d1 d2 d3 d4 d5 d6 d7) k hk
    simpa using this
  · decide +kernel
  · exact { fs := fs, fd := fd, sm := fun t _ _ _ _ _ _ => rfl, e2 := e2, e3 := e3, g1 := g1, g2 := g2, fr := fr, bz := bz, cz := cz, r0 := fun e => (nomatch e), r1 := fun e => (nomatch e), r2 := fun e => (nomatch e), r3 := fun e => (nomatch e), r4 := fun e => (nomatch e), r5 := fun e => (nomatch e), ne := fun e => (nomatch e), l6 := fun e => (nomatch e), l7 := fun e => (nomatch e) }
end Go.Proofs.YtldncgelghcjeaaGreatDoor.K
namespace Go.Proofs.YtldncgelghcjeaaGreatDoor.K
open Go.ChangeShapes Go.WideShapes Go.ChangeAt Go.RowKit
set_option maxRecDepth 100000

abbrev M3.sl3 (m : M3) : Value := .slice m.m.a m.m.cs.length m.m.cap
/-- A pod's containers, in a row of the document's that is owned. -/
def M3.OwnR (N : Nat) (W : World) (m : M3) : Prop := W.ownsRow N 115 7 m.sl3 m.m.cs.length (ccells m.m.cs)
structure OS3 (w W : World) (b : Nat) (seq : Int) (o : Option Addr) (k c : Nat) (D : List M3) : Prop where
  hb : b = w.heap.size
  r : W.heap[b + 1]? = some (.cells #[.int .u64 0, .slice none 0 0] 30)
  st : W.heap[b + 2]? = some (.cells #[.int .u64 seq, .slice o k c] 30)
  row : W.ownsRow (b + 3) 48 7 (.slice o k c) k (m3s D)
  each : ∀ m ∈ D, m.OwnR (b + 3) W
  fr : Fresh w W
structure OP3 (w W : World) (b : Nat) (seq : Int) (o : Option Addr) (k c : Nat) (D : List M3) (y : Nat) (pc : Array Value) (a : Option Addr) (n cc : Nat) (cs : List CM) : Prop extends OS3 w W b seq o k c D where
  hy : b + 2 < y
  p : W.heap[y]? = some (.cells pc 46)
  lowR : ∀ g, (Value.slice o k c).ownBlock = some g → g < y
  lowD : ∀ m ∈ D, ∀ g, m.sl3.ownBlock = some g → g < y
  crow : W.ownsRow (y + 1) 115 7 (.slice a n cc) n (ccells cs)
section
variable {w W W' : World} {b y : Nat} {seq : Int} {o : Option Addr} {k c : Nat} {D : List M3} {pc : Array Value} {a : Option Addr} {n cc : Nat} {cs : List CM}
theorem OS3.fresh (h : OS3 w W b seq o k c D) (f : Fresh W W') : OS3 w W' b seq o k c D :=
  ⟨h.hb, f.at h.r, f.at h.st, own_fresh h.row f, fun m hm => own_fresh (h.each m hm) f, h.fr.trans f⟩
theorem OP3.fresh (h : OP3 w W b seq o k c D y pc a n cc cs) (f : Fresh W W') : OP3 w W' b seq o k c D y pc a n cc cs :=
  ⟨h.toOS3.fresh f, h.hy, f.at h.p, h.lowR, h.lowD, own_fresh h.crow f⟩
theorem OS3.pod (h : OS3 w W b seq o k c D) (pc : Array Value) : OP3 w (W.alloc (.cells pc 46)) b seq o k c D W.heap.size pc none 0 0 [] :=
  ⟨h.fresh ((Fresh.refl W).alloc _), lt_of_at h.st, at_new _ _, fun g e => (World.ownsRow.lt h.row g e).2, fun m hm g e => (World.ownsRow.lt (h.each m hm) g e).2, World.ownsRow_nil _ _ _ _⟩
theorem OP3.setP (h : OP3 w W b seq o k c D y pc a n cc cs) (i : Nat) (u : Value) : OP3 w (W.setCell ⟨y, i, none⟩ u) b seq o k c D y (pc.setIfInBounds i u) a n cc cs := by
  have hy := h.hy
  refine ⟨⟨h.hb, at_off h.r (by omega) _, at_off h.st (by omega) _, ?_, fun m hm => own_type (h.each m hm) h.p (by decide) i u, ?_⟩, h.hy, at_set h.p i u, h.lowR, h.lowD, own_set (p := ⟨y, i, none⟩) h.crow (by show y < y + 1; omega) _⟩
  · refine World.ownsRow.kept h.row (grown_set W y i u) ?_
    rcases h' : (Value.slice o k c).ownBlock with _ | g
    · exact .inl rfl
    · exact .inr (fun e2 => by have := h.lowR g h'; have : g = y := by simpa using e2
                               omega)
  · exact h.fr.setCell (p := ⟨y, i, none⟩) (by show w.heap.size ≤ y; rw [← h.hb]; omega) _
/-- Behind an append to the containers. -/
theorem OP3.grownC (h : OP3 w W b seq o k c D y pc a n cc cs) (hg : W.grownBy W' (Value.slice a n cc).ownBlock) {a' : Option Addr} {n' cc' : Nat} {cs' : List CM} (hr : W'.ownsRow (y + 1) 115 7 (.slice a' n' cc') n' (ccells cs')) : OP3 w W' b seq o k c D y pc a' n' cc' cs' := by
  have hy := h.hy
  have hlt : ∀ g, (Value.slice a n cc).ownBlock = some g → y + 1 ≤ g := fun g e => (World.ownsRow.lt h.crow g e).1
  have hne : ∀ x, x ≤ y → some x ≠ (Value.slice a n cc).ownBlock := fun x hx e => by have := hlt x e.symm; omega
  have hat : ∀ {x : Nat} {z : Obj}, x ≤ y → W.heap[x]? = some z → W'.heap[x]? = some z := fun {x z} hx hz => (hg.block x (lt_of_at hz) (hne x hx)).trans hz
  refine ⟨⟨h.hb, hat (by omega) h.r, hat (by omega) h.st, own_kept_ne2 h.row h.crow (by decide) hg, fun m hm => ?_, ?_⟩, h.hy, hat (Nat.le_refl _) h.p, h.lowR, h.lowD, hr⟩
  · refine World.ownsRow.kept (h.each m hm) hg ?_
    rcases h' : m.sl3.ownBlock with _ | g
    · exact .inl rfl
    · exact .inr (hne g (Nat.le_of_lt (h.lowD m hm g h')))
  · exact h.fr.grown hg (fun g e => by have := hlt g e; have := h.hb; omega)
/-- Behind an append to the pods, and its store. -/
theorem OP3.grownP (h : OP3 w W b seq o k c D y pc a n cc cs) {m : M3} (hma : m.sl3 = .slice a n cc) (hml : m.m.cs.length = n) (hmc : m.m.cs = cs) (hg : W.grownBy W' (Value.slice o k c).ownBlock) {o' : Option Addr} {c' : Nat}
    (hr : W'.ownsRow (b + 3) 48 7 (.slice o' (k + 1) c') (k + 1) (m3s (D ++ [m]))) : OS3 w (W'.setCell ⟨b + 2, 1, none⟩ (.slice o' (k + 1) c')) b seq o' (k + 1) c' (D ++ [m]) := by
  have hy := h.hy
  have hlt : ∀ g, (Value.slice o k c).ownBlock = some g → b + 3 ≤ g := fun g e => (World.ownsRow.lt h.row g e).1
  have hat : ∀ {x : Nat} {z : Obj}, x ≤ b + 2 → W.heap[x]? = some z → W'.heap[x]? = some z := fun {x z} hx hz => (hg.block x (lt_of_at hz) (fun e => by have := hlt x e.symm; omega)).trans hz
  refine ⟨h.hb, at_off (hat (by omega) h.r) (by omega) _, at_set (hat (Nat.le_refl _) h.st) 1 _, own_set (p := ⟨b + 2, 1, none⟩) hr (by show b + 2 < b + 3; omega) _, fun x hx => ?_, ?_⟩
  · refine own_set (p := ⟨b + 2, 1, none⟩) ?_ (by show b + 2 < b + 3; omega) _
    rcases List.mem_append.1 hx with hx | hx
    · exact own_kept_ne2 (h.each x hx) h.row (by decide) hg
    · rw [List.mem_singleton.1 hx]
      show W'.ownsRow (b + 3) 115 7 m.sl3 m.m.cs.length (ccells m.m.cs)
      rw [hma, hml, hmc]
      exact World.ownsRow.mono (base := y + 1) (own_kept_ne2 h.crow h.row (by decide) hg) (by omega)
  · exact (h.fr.grown hg (fun g e => by have := hlt g e; have := h.hb; omega)).setCell (p := ⟨b + 2, 1, none⟩) (by show w.heap.size ≤ b + 2; have := h.hb; omega) _
theorem OP3.pc6 {v0 v1 v2 v3 v4 v5 : Value} (h : OP3 w W b seq o k c D y #[v0, v1, v2, v3, v4, v5] a n cc cs) :
    (W.cell? ⟨y, 0, none⟩ = some v0 ∧ W.cell? ⟨y, 1, none⟩ = some v1 ∧ W.cell? ⟨y, 2, none⟩ = some v2 ∧ W.cell? ⟨y, 3, none⟩ = some v3 ∧ W.cell? ⟨y, 4, none⟩ = some v4 ∧ W.cell? ⟨y, 5, none⟩ = some v5) ∧ W.frozen? ⟨y, 0, none⟩ = false ∧ W.frozen? ⟨y, 1, none⟩ = false ∧ W.frozen? ⟨y, 2, none⟩ = false ∧ W.frozen? ⟨y, 3, none⟩ = false ∧ W.frozen? ⟨y, 4, none⟩ = false ∧ W.frozen? ⟨y, 5, none⟩ = false :=
  ⟨⟨cell_of_at h.p rfl, cell_of_at h.p rfl, cell_of_at h.p rfl, cell_of_at h.p rfl, cell_of_at h.p rfl, cell_of_at h.p rfl⟩, frozen_of_at h.p 0, frozen_of_at h.p 1, frozen_of_at h.p 2, frozen_of_at h.p 3, frozen_of_at h.p 4, frozen_of_at h.p 5⟩
end
theorem infoR3C : (Tryz.prog.info? 115).map (fun i => (i.zero, i.size, i.bytes)) = some (some (.agg #[.string ⟨#[]⟩, .string ⟨#[]⟩, .slice none 0 0, .slice none 0 0, .int .i64 0, .int .i64 0, .slice none 0 0]), 7, 120) := by kernel_rfl
theorem infoR3P : (Tryz.prog.info? 48).map (fun i => (i.zero, i.size, i.bytes)) = some (some (.agg #[.string ⟨#[]⟩, .string ⟨#[]⟩, .string ⟨#[]⟩, .int .i64 0, .int .i64 0, .bool false, .slice none 0 0]), 7, 96) := by kernel_rfl
/-- Behind an append of one container. -/
theorem OP3.app {w W : World} {b y : Nat} {seq : Int} {o : Option Addr} {k c : Nat} {D : List M3} {pc : Array Value} {a : Option Addr} {n cc : Nat} {cs : List CM} (h : OP3 w W b seq o k c D y pc a n cc cs) (x : CM) (hn : n ≤ 4000000) :
    ∃ g cap w3, (Builtin.append_ #[44, 44] 44 #[.slice a n cc, .slice (some ⟨W.heap.size, 0, none⟩) 1 1]).run Tryz.prog (W.alloc (.cells x.cells.toArray 115)) = .ok (.slice (some ⟨g, 0, none⟩) (n + 1) cap) w3 ∧ OP3 w w3 b seq o k c D y pc (some ⟨g, 0, none⟩) (n + 1) cap (cs ++ [x]) ∧ ∀ z u, z ≤ y → W.heap[z]? = some u → w3.heap[z]? = some u := by
  obtain ⟨i0, hi, hz0, hz1, hz2⟩ := info_parts infoR3C
  have hys : y < W.heap.size := lt_of_at h.p
  obtain ⟨v', w3, hr, hown', hgrow, _⟩ := run_append_own (P := Tryz.prog) (w := W.alloc (.cells x.cells.toArray 115)) (y + 1) 44 44 115 i0 _ 7 120 Tryz.underlying44 hi hz0 hz1 hz2 rfl (by decide) (.slice a n cc) n (ccells cs) (World.ownsRow.alloc h.crow _) ⟨W.heap.size, 0, none⟩ 1 1 x.cells rfl
    (fun j u hj => by rw [addr_add0]; exact cell_of_at (at_new W (.cells x.cells.toArray 115)) (by simpa using hj)) (by simp [CM.cells, Value.oneCell']) (by unfold maxLen; omega) (by omega) (by rw [World.size_alloc]; omega)
  obtain ⟨g', cap', rfl⟩ := ownsRow_succ hown'
  have hlt : ∀ g, (Value.slice a n cc).ownBlock = some g → y + 1 ≤ g := fun g e => (World.ownsRow.lt h.crow g e).1
  exact ⟨g', cap', w3, hr, (h.fresh ((Fresh.refl W).alloc _)).grownC hgrow (by rw [ccells_snoc1]; exact hown'), fun z u hz hu => (hgrow.block z (by rw [World.size_alloc]; have := lt_of_at hu; omega) (fun e => by have := hlt z e.symm; omega)).trans (at_alloc hu)⟩
theorem OS3.done {w W : World} {b : Nat} {seq : Int} {o : Option Addr} {k c : Nat} {D : List M3} (h : OS3 w W b seq o k c D) (hc : ∀ x ∈ D, ∀ m ∈ x.m.cs, ∃ d, m = cmOf d) (u v : Value) : (∃ E, pods3 E = pods3 D ∧ Row3 ((W.setCell ⟨b + 1, 0, none⟩ u).setCell ⟨b + 1, 1, none⟩ v) o E) ∧ Fresh w ((W.setCell ⟨b + 1, 0, none⟩ u).setCell ⟨b + 1, 1, none⟩ v) := by
  refine ⟨⟨D, rfl, RowAt.owns (own_set (p := ⟨b + 1, 1, none⟩) (own_set (p := ⟨b + 1, 0, none⟩) h.row (by show b + 1 < b + 3; omega) _) (by show b + 1 < b + 3; omega) _), fun x hx => ?_⟩, ?_⟩
  · have ho := own_set (p := ⟨b + 1, 1, none⟩) (own_set (p := ⟨b + 1, 0, none⟩) (h.each x hx) (by show b + 1 < b + 3; omega) u) (by show b + 1 < b + 3; omega) v
    exact ⟨RowAt.owns ho, fun m hm => by
      obtain ⟨d, rfl⟩ := hc x hx m hm
      exact cmOf_in _ d, own_le ho⟩
  · exact (h.fr.setCell (p := ⟨b + 1, 0, none⟩) (by have := h.hb; show _ ≤ b + 1; omega) _).setCell (p := ⟨b + 1, 1, none⟩) (by have := h.hb; show _ ≤ b + 1; omega) _
/-- The phases of the region that appends a container. -/
def RI (B : World → Prop) (new : Array Value) (y n : Nat) (C : Nat → Nat → World → Prop) : List Value → World → Prop
  | [], W => B W
  | [y0], W => ∃ W2, B W2 ∧ W = W2.alloc (.cells new 115) ∧ y0 = .slice (some ⟨W2.heap.size, 0, none⟩) 1 1
  | [_, y1], W => ∃ g cap, y1 = .slice (some ⟨g, 0, none⟩) (n + 1) cap ∧ C g cap W
  | [_, _, _], W => ∃ g cap W3, C g cap W3 ∧ W = W3.setCell ⟨y, 5, none⟩ (.slice (some ⟨g, 0, none⟩) (n + 1) cap)
  | _, _ => False
end Go.Proofs.YtldncgelghcjeaaGreatDoor.K
