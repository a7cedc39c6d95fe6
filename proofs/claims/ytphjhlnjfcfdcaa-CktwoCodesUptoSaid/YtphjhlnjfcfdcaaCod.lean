/-
  bosunlaw18.CktwoCodes returns true, for every two states of version 2 that are together of bulk at most 1048576: no other condition.
  States of version 2, with where their rows lie.
  Two states turned into the document's, in whatever order Go takes it (printed by genreg3.py.txt 2).
  The bytes of a state of version 2, by the document (printed by genrbytes2.py.txt).
  Are two states of version 2 alike, by package cktwo?
  bosunlaw18.CktwoCodes, walked (made by gencodes2.py.txt).
-/
import Derived.Test.YtphjhlnjfcfdcaaTwo03
import Derived.Test.YtphjhlnjfcfdcaaKAny
import Derived.OrdersHeld
import Derived.Laws.World
import Derived.Test.YtphjhlnjfcfdcaaKRbytes
import Derived.Test.YtphjhlnjfcfdcaaTwo02
import Derived.Test.YtphjhlnjfcfdcaaRows
import Derived.WalkKit
import Derived.ProofKit
import Derived.OpenShut
import Derived.ShutString
import Derived.JoinedCond
import Derived.Test.YtphjhlnjfcfdcaaBak
namespace Go.Proofs.Ytphjhlnjfcfdcaa
open Go.ChangeShapes Go.WideShapes Go.ChangeAt Go.RowKit

structure SM2 where
  seq : Int
  a : Option Addr
  l : List P2
  c : Nat
def SM2.val (p : SM2) : Value := .agg #[.int .u64 p.seq, .slice p.a p.l.length p.c]
abbrev SM2.obj (p : SM2) (ty : Nat) : Obj := .cells #[.int .u64 p.seq, .slice p.a p.l.length p.c] ty
def SM2.At (p : SM2) (w : World) : Prop := AtL p.l w p.a ∧ p.l.length ≤ 4000000 ∧ ∀ x ∈ p.l, x.cs.length ≤ 4000000
def SM2.Own (p : SM2) (W : World) (B : Nat) : Prop := ∃ D : List M2, pods2 D = p.l ∧ W.ownsRow B 103 6 (.slice p.a p.l.length p.c) p.l.length (m2s D) ∧ ∀ m ∈ D, m.Own B W
theorem own2_fresh {p : SM2} {W W' : World} {B : Nat} (h : p.Own W B) (f : Fresh W W') : p.Own W' B := by
  obtain ⟨D, h1, h2, h3⟩ := h
  exact ⟨D, h1, own_fresh h2 f, fun m hm => own_fresh (h3 m hm) f⟩
theorem own2_set {p : SM2} {W : World} {B z : Nat} {cs : Array Value} (h : p.Own W B) (hz : W.heap[z]? = some (.cells cs 53)) (i : Nat) (u : Value) : p.Own (W.setCell ⟨z, i, none⟩ u) B := by
  obtain ⟨D, h1, h2, h3⟩ := h
  exact ⟨D, h1, own_type h2 hz (by decide) i u, fun m hm => own_type (h3 m hm) hz (by decide) i u⟩
theorem SM2.Own.at {p : SM2} {W : World} {B : Nat} (h : p.Own W B) : AtL p.l W p.a := by
  obtain ⟨D, h1, h2, h3⟩ := h
  exact ⟨D, h1, RowAt.owns h2, fun m hm => (h3 m hm).in⟩
theorem of2_own (p : SM2) (w0 W : World) (h : p.At w0) (f : Fresh w0 W) : Calls Try.prog 24 #[p.val] W fun e V => ∃ x : SM2, e = .returned x.val ∧ (x.seq = p.seq ∧ x.l = p.l) ∧ x.Own V W.heap.size ∧ Fresh W V := by
  obtain ⟨h1, h2, h3⟩ := h
  obtain ⟨D, hD, hr⟩ := h1.move f
  obtain ⟨seq, a, l, c⟩ := p
  dsimp only at *
  subst hD
  have hof := of2_any seq a D c W hr (by rw [pods2_length] at h2; exact h2) (fun m hm => h3 _ (pods2_mem hm))
  show Calls Try.prog 24 #[.agg #[.int .u64 seq, .slice a (pods2 D).length c]] W _
  rw [pods2_length]
  refine Calls.mono hof ?_
  rintro e V ⟨a', c', E, rfl, e1, e2, e3, e4⟩
  have hlen : (pods2 D).length = E.length := by rw [← e1, pods2_length]
  refine ⟨⟨seq, a', pods2 D, c'⟩, ?_, ⟨rfl, rfl⟩, ⟨E, e1, ?_, e3⟩, e4⟩
  · show _ = Ending.returned (.agg #[.int .u64 seq, .slice a' (pods2 D).length c'])
    rw [hlen]; rfl
  · show V.ownsRow W.heap.size 103 6 (.slice a' (pods2 D).length c') (pods2 D).length (m2s E)
    rw [hlen]; exact e2
end Go.Proofs.Ytphjhlnjfcfdcaa
namespace Go.Proofs.Ytphjhlnjfcfdcaa
open Go.ChangeShapes Go.WideShapes Go.ChangeAt Go.RowKit
set_option maxRecDepth 100000

def o2_0 : Oper := { dst := some 19, op := Go.Op.load 49 (Go.Operand.tmp 2), type := 49, pos := "law.go:50", after := #[], guard := none }
def o2_1 : Oper := { dst := some 20, op := Go.Op.call { callee := Go.Callee.value (Go.Operand.func 24), args := #[Go.Operand.tmp 19], argTypes := #[49] }, type := 53, pos := "law.go:50", after := #[{ on := 0, ground := Go.Ground.data }], guard := none }
def o2_2 : Oper := { dst := some 21, op := Go.Op.load 49 (Go.Operand.tmp 3), type := 49, pos := "law.go:50", after := #[], guard := none }
def o2_3 : Oper := { dst := some 22, op := Go.Op.call { callee := Go.Callee.value (Go.Operand.func 24), args := #[Go.Operand.tmp 21], argTypes := #[49] }, type := 53, pos := "law.go:50", after := #[{ on := 2, ground := Go.Ground.data }, { on := 1, ground := Go.Ground.chain }], guard := none }
def o2_4 : Oper := { dst := some 5, op := Go.Op.alloc 53, type := 0, pos := "law.go:50", after := #[], guard := none }
def o2_5 : Oper := { dst := some 6, op := Go.Op.alloc 53, type := 0, pos := "law.go:50", after := #[], guard := none }
def o2_6 : Oper := { dst := none, op := Go.Op.store 53 (Go.Operand.tmp 5) (Go.Operand.tmp 20), type := 0, pos := "law.go:50", after := #[{ on := 4, ground := Go.Ground.data }, { on := 1, ground := Go.Ground.data }, { on := 3, ground := Go.Ground.chain }, { on := 0, ground := Go.Ground.phase }, { on := 1, ground := Go.Ground.phase }, { on := 2, ground := Go.Ground.textOnly Go.Departure.lateStores }, { on := 3, ground := Go.Ground.textOnly Go.Departure.lateStoresUnsure }, { on := 4, ground := Go.Ground.phase }, { on := 5, ground := Go.Ground.phase }], guard := none }
def o2_7 : Oper := { dst := none, op := Go.Op.store 53 (Go.Operand.tmp 6) (Go.Operand.tmp 22), type := 0, pos := "law.go:50", after := #[{ on := 5, ground := Go.Ground.data }, { on := 3, ground := Go.Ground.data }, { on := 6, ground := Go.Ground.chain }, { on := 0, ground := Go.Ground.phase }, { on := 1, ground := Go.Ground.phase }, { on := 2, ground := Go.Ground.phase }, { on := 3, ground := Go.Ground.phase }, { on := 4, ground := Go.Ground.phase }, { on := 5, ground := Go.Ground.phase }, { on := 6, ground := Go.Ground.phase }], guard := none }
def ops2 : Array Oper := #[o2_0, o2_1, o2_2, o2_3, o2_4, o2_5, o2_6, o2_7]
theorem r2_done : ∀ d0 d1 d2 d3 d4 d5 d6 d7 : Bool, (Region.ready .any ops2 #[d0, d1, d2, d3, d4, d5, d6, d7]).isEmpty = true → (d0 && d1 && d2 && d3 && d4 && d5 && d6 && d7) = true := by decide +kernel
theorem r2_1 : ∀ d0 d1 d2 d3 d4 d5 d6 d7 : Bool, (Region.ready .any ops2 #[d0, d1, d2, d3, d4, d5, d6, d7]).contains 1 = true → (!d1 && d0) = true := by decide +kernel
theorem r2_3 : ∀ d0 d1 d2 d3 d4 d5 d6 d7 : Bool, (Region.ready .any ops2 #[d0, d1, d2, d3, d4, d5, d6, d7]).contains 3 = true → (!d3 && d2 && d1) = true := by decide +kernel
theorem r2_4 : ∀ d0 d1 d2 d3 d4 d5 d6 d7 : Bool, (Region.ready .any ops2 #[d0, d1, d2, d3, d4, d5, d6, d7]).contains 4 = true → (!d4) = true := by decide +kernel
theorem r2_5 : ∀ d0 d1 d2 d3 d4 d5 d6 d7 : Bool, (Region.ready .any ops2 #[d0, d1, d2, d3, d4, d5, d6, d7]).contains 5 = true → (!d5) = true := by decide +kernel
theorem r2_6 : ∀ d0 d1 d2 d3 d4 d5 d6 d7 : Bool, (Region.ready .any ops2 #[d0, d1, d2, d3, d4, d5, d6, d7]).contains 6 = true → (!d6 && d4 && d1 && d3) = true := by decide +kernel
theorem r2_7 : ∀ d0 d1 d2 d3 d4 d5 d6 d7 : Bool, (Region.ready .any ops2 #[d0, d1, d2, d3, d4, d5, d6, d7]).contains 7 = true → (!d7 && d5 && d3 && d6) = true := by decide +kernel
theorem r2_lt : ∀ d0 d1 d2 d3 d4 d5 d6 d7 : Bool, (Region.ready .any ops2 #[d0, d1, d2, d3, d4, d5, d6, d7]).all (fun k => decide (k < 8)) = true := by decide +kernel
abbrev zero2 : Obj := .cells #[.int .u64 0, .slice none 0 0] 53
/-- The two stores of a state into a box. -/
def set2 (W : World) (z : Nat) (p : SM2) : World := (W.setCell ⟨z, 0, none⟩ (.int .u64 p.seq)).setCell ⟨z, 1, none⟩ (.slice p.a p.l.length p.c)
theorem set2_box {W : World} {z : Nat} {x : SM2} (h : W.heap[z]? = some zero2) : (set2 W z x).heap[z]? = some (x.obj 53) := at_set (at_set h 0 _) 1 _
theorem set2_off {W : World} {z g : Nat} {x : SM2} {o : Obj} (h : W.heap[g]? = some o) (hne : g ≠ z) : (set2 W z x).heap[g]? = some o := at_off (at_off h hne _) hne _
theorem set2_own {W : World} {z B : Nat} {x y : SM2} (h : y.Own W B) (hz : W.heap[z]? = some zero2) : y.Own (set2 W z x) B :=
  own2_set (own2_set h hz 0 _) (at_set hz 0 _) 1 _
theorem set2_fresh {w W : World} {z : Nat} {x : SM2} (f : Fresh w W) (hz : w.heap.size ≤ z) : Fresh w (set2 W z x) := (f.setCell (p := ⟨z, 0, none⟩) hz _).setCell (p := ⟨z, 1, none⟩) hz _
/-- What holds between the operations. -/
structure IR2 (A0 : Act) (w0 : World) (p q : SM2) (b c : Nat) (d0 d1 d2 d3 d4 d5 d6 d7 : Bool) (a : Act) (W : World) (m n : SM2) (zx zy Bm Bn : Nat) : Prop where
  fs : a.tmps.size = 72
  fd : a.defers = []
  sm : ∀ t, t ≠ 19 → t ≠ 20 → t ≠ 21 → t ≠ 22 → t ≠ 5 → t ≠ 6 → a.eval (.tmp t) = A0.eval (.tmp t)
  e2 : a.eval (.tmp 2) = .pointer (some ⟨b, 0, none⟩)
  e3 : a.eval (.tmp 3) = .pointer (some ⟨c, 0, none⟩)
  g1 : W.heap[b]? = some (p.obj 49)
  g2 : W.heap[c]? = some (q.obj 49)
  fr : Fresh w0 W
  bz : b < w0.heap.size
  cz : c < w0.heap.size
  r0 : d0 = true → a.eval (.tmp 19) = p.val
  r1 : d1 = true → a.eval (.tmp 20) = m.val ∧ (m.seq = p.seq ∧ m.l = p.l) ∧ m.Own W Bm
  r2 : d2 = true → a.eval (.tmp 21) = q.val
  r3 : d3 = true → a.eval (.tmp 22) = n.val ∧ (n.seq = q.seq ∧ n.l = q.l) ∧ n.Own W Bn
  r4 : d4 = true → a.eval (.tmp 5) = .pointer (some ⟨zx, 0, none⟩) ∧ w0.heap.size ≤ zx ∧ (d6 = true → W.heap[zx]? = some (m.obj 53)) ∧ (d6 = false → W.heap[zx]? = some zero2)
  r5 : d5 = true → a.eval (.tmp 6) = .pointer (some ⟨zy, 0, none⟩) ∧ w0.heap.size ≤ zy ∧ (d7 = true → W.heap[zy]? = some (n.obj 53)) ∧ (d7 = false → W.heap[zy]? = some zero2)
  ne : d4 = true → d5 = true → zx ≠ zy
  l6 : d6 = true → d1 = true ∧ d4 = true
  l7 : d7 = true → d3 = true ∧ d5 = true ∧ d6 = true

theorem run2_0 {a : Act} {W : World} {b : Nat} {p : SM2} (e : a.eval (.tmp 2) = .pointer (some ⟨b, 0, none⟩)) (g : W.heap[b]? = some (p.obj 49)) : (execOp a.eval o2_0).run Try.prog W = .ok (.value p.val) W := by
  have c0 := cell_of_at g (i := 0) rfl
  have c1 := cell_of_at g (i := 1) rfl
  have e := ev_get e
  simp [execOp, o2_0, e, go_sem, c0, c1, SM2.val]
theorem run2_2 {a : Act} {W : World} {b : Nat} {p : SM2} (e : a.eval (.tmp 3) = .pointer (some ⟨b, 0, none⟩)) (g : W.heap[b]? = some (p.obj 49)) : (execOp a.eval o2_2).run Try.prog W = .ok (.value p.val) W := by
  have c0 := cell_of_at g (i := 0) rfl
  have c1 := cell_of_at g (i := 1) rfl
  have e := ev_get e
  simp [execOp, o2_2, e, go_sem, c0, c1, SM2.val]
theorem run2_1 {a : Act} {W : World} {v : Value} (e : a.eval (.tmp 19) = v) : (execOp a.eval o2_1).run Try.prog W = .ok (.enter 24 #[v]) W := by
  have e := ev_get e
  simp [execOp, o2_1, e, go_sem]
theorem run2_3 {a : Act} {W : World} {v : Value} (e : a.eval (.tmp 21) = v) : (execOp a.eval o2_3).run Try.prog W = .ok (.enter 24 #[v]) W := by
  have e := ev_get e
  simp [execOp, o2_3, e, go_sem]
theorem run2_4 {a : Act} {W : World} : (execOp a.eval o2_4).run Try.prog W = .ok (.value (.pointer (some ⟨W.heap.size, 0, none⟩))) (W.alloc zero2) := by
  simp [execOp, o2_4, go_sem]
theorem run2_5 {a : Act} {W : World} : (execOp a.eval o2_5).run Try.prog W = .ok (.value (.pointer (some ⟨W.heap.size, 0, none⟩))) (W.alloc zero2) := by
  simp [execOp, o2_5, go_sem]
theorem run2_6 {a : Act} {W : World} {z : Nat} {p : SM2} (e : a.eval (.tmp 5) = .pointer (some ⟨z, 0, none⟩)) (e' : a.eval (.tmp 20) = p.val) (g : W.heap[z]? = some zero2) : (execOp a.eval o2_6).run Try.prog W = .ok .skip (set2 W z p) := by
  have c0 := cell_of_at g (i := 0) rfl
  have c1 := cell_of_at g (i := 1) rfl
  have f0 := frozen_of_at g 0
  have f1 := frozen_of_at g 1
  have e := ev_get e
  have e' := ev_get e'
  simp [execOp, o2_6, e, e', go_sem, c0, c1, f0, f1, set2, SM2.val]
theorem run2_7 {a : Act} {W : World} {z : Nat} {p : SM2} (e : a.eval (.tmp 6) = .pointer (some ⟨z, 0, none⟩)) (e' : a.eval (.tmp 22) = p.val) (g : W.heap[z]? = some zero2) : (execOp a.eval o2_7).run Try.prog W = .ok .skip (set2 W z p) := by
  have c0 := cell_of_at g (i := 0) rfl
  have c1 := cell_of_at g (i := 1) rfl
  have f0 := frozen_of_at g 0
  have f1 := frozen_of_at g 1
  have e := ev_get e
  have e' := ev_get e'
  simp [execOp, o2_7, e, e', go_sem, c0, c1, f0, f1, set2, SM2.val]
def IC2 (A0 : Act) (w0 : World) (p q : SM2) (b c : Nat) (d0 d1 d2 d3 d4 d5 d6 d7 : Bool) (a : Act) (W : World) : Prop := ∃ m n zx zy Bm Bn, IR2 A0 w0 p q b c d0 d1 d2 d3 d4 d5 d6 d7 a W m n zx zy Bm Bn
section
variable {A0 : Act} {w0 : World} {p q : SM2} {b c : Nat} {Q : Exit → Act → World → Prop} {d0 d1 d2 d3 d4 d5 d6 d7 : Bool} {a : Act} {W : World}
theorem IR2.lt4 {m n : SM2} {zx zy Bm Bn : Nat} (h : IR2 A0 w0 p q b c d0 d1 d2 d3 d4 d5 d6 d7 a W m n zx zy Bm Bn) (t : d4 = true) : zx < W.heap.size := by
  rcases Bool.eq_false_or_eq_true d6 with u | u
  · exact lt_of_at ((h.r4 t).2.2.1 u)
  · exact lt_of_at ((h.r4 t).2.2.2 u)
theorem IR2.lt5 {m n : SM2} {zx zy Bm Bn : Nat} (h : IR2 A0 w0 p q b c d0 d1 d2 d3 d4 d5 d6 d7 a W m n zx zy Bm Bn) (t : d5 = true) : zy < W.heap.size := by
  rcases Bool.eq_false_or_eq_true d7 with u | u
  · exact lt_of_at ((h.r5 t).2.2.1 u)
  · exact lt_of_at ((h.r5 t).2.2.2 u)
theorem step2_0 (h : IC2 A0 w0 p q b c d0 d1 d2 d3 d4 d5 d6 d7 a W) (_ : 0 ∈ Region.ready .any ops2 #[d0, d1, d2, d3, d4, d5, d6, d7]) : wpOp Try.prog ops2 Q 0 (IC2 A0 w0 p q b c true d1 d2 d3 d4 d5 d6 d7) a W := by
  obtain ⟨m, n, zx, zy, Bm, Bn, h⟩ := h
  refine wpOp_run (o := o2_0) rfl rfl (run2_0 h.e2 h.g1) ⟨m, n, zx, zy, Bm, Bn, ?_⟩
  show IR2 A0 w0 p q b c true d1 d2 d3 d4 d5 d6 d7 (a.put (some 19) _) W m n zx zy Bm Bn
  exact { fs := by rw [put_size]; exact h.fs, fd := by rw [put_defers]; exact h.fd, sm := fun t n0 n1 n2 n3 n4 n5 => (ev_ne (d := 19) (Ne.symm n0)).trans (h.sm t n0 n1 n2 n3 n4 n5), e2 := (ev_ne (d := 19) (t := 2) (by decide)).trans h.e2, e3 := (ev_ne (d := 19) (t := 3) (by decide)).trans h.e3, g1 := h.g1, g2 := h.g2, fr := h.fr, bz := h.bz, cz := h.cz, r0 := fun _ => ev_same (by rw [h.fs]; decide), r1 := fun t => ⟨(ev_ne (d := 19) (t := 20) (by decide)).trans (h.r1 t).1, (h.r1 t).2.1, (h.r1 t).2.2⟩, r2 := fun t => (ev_ne (d := 19) (t := 21) (by decide)).trans (h.r2 t), r3 := fun t => ⟨(ev_ne (d := 19) (t := 22) (by decide)).trans (h.r3 t).1, (h.r3 t).2.1, (h.r3 t).2.2⟩, r4 := fun t => ⟨(ev_ne (d := 19) (t := 5) (by decide)).trans (h.r4 t).1, (h.r4 t).2.1, fun u => (h.r4 t).2.2.1 u, fun u => (h.r4 t).2.2.2 u⟩, r5 := fun t => ⟨(ev_ne (d := 19) (t := 6) (by decide)).trans (h.r5 t).1, (h.r5 t).2.1, fun u => (h.r5 t).2.2.1 u, fun u => (h.r5 t).2.2.2 u⟩, ne := h.ne, l6 := h.l6, l7 := h.l7 }
theorem step2_2 (h : IC2 A0 w0 p q b c d0 d1 d2 d3 d4 d5 d6 d7 a W) (_ : 2 ∈ Region.ready .any ops2 #[d0, d1, d2, d3, d4, d5, d6, d7]) : wpOp Try.prog ops2 Q 2 (IC2 A0 w0 p q b c d0 d1 true d3 d4 d5 d6 d7) a W := by
  obtain ⟨m, n, zx, zy, Bm, Bn, h⟩ := h
  refine wpOp_run (o := o2_2) rfl rfl (run2_2 h.e3 h.g2) ⟨m, n, zx, zy, Bm, Bn, ?_⟩
  show IR2 A0 w0 p q b c d0 d1 true d3 d4 d5 d6 d7 (a.put (some 21) _) W m n zx zy Bm Bn
  exact { fs := by rw [put_size]; exact h.fs, fd := by rw [put_defers]; exact h.fd, sm := fun t n0 n1 n2 n3 n4 n5 => (ev_ne (d := 21) (Ne.symm n2)).trans (h.sm t n0 n1 n2 n3 n4 n5), e2 := (ev_ne (d := 21) (t := 2) (by decide)).trans h.e2, e3 := (ev_ne (d := 21) (t := 3) (by decide)).trans h.e3, g1 := h.g1, g2 := h.g2, fr := h.fr, bz := h.bz, cz := h.cz, r0 := fun t => (ev_ne (d := 21) (t := 19) (by decide)).trans (h.r0 t), r1 := fun t => ⟨(ev_ne (d := 21) (t := 20) (by decide)).trans (h.r1 t).1, (h.r1 t).2.1, (h.r1 t).2.2⟩, r2 := fun _ => ev_same (by rw [h.fs]; decide), r3 := fun t => ⟨(ev_ne (d := 21) (t := 22) (by decide)).trans (h.r3 t).1, (h.r3 t).2.1, (h.r3 t).2.2⟩, r4 := fun t => ⟨(ev_ne (d := 21) (t := 5) (by decide)).trans (h.r4 t).1, (h.r4 t).2.1, fun u => (h.r4 t).2.2.1 u, fun u => (h.r4 t).2.2.2 u⟩, r5 := fun t => ⟨(ev_ne (d := 21) (t := 6) (by decide)).trans (h.r5 t).1, (h.r5 t).2.1, fun u => (h.r5 t).2.2.1 u, fun u => (h.r5 t).2.2.2 u⟩, ne := h.ne, l6 := h.l6, l7 := h.l7 }
theorem step2_1 (hp : p.At w0) (h : IC2 A0 w0 p q b c d0 d1 d2 d3 d4 d5 d6 d7 a W) (hr : 1 ∈ Region.ready .any ops2 #[d0, d1, d2, d3, d4, d5, d6, d7]) : wpOp Try.prog ops2 Q 1 (IC2 A0 w0 p q b c d0 true d2 d3 d4 d5 d6 d7) a W := by
  have hc := r2_1 d0 d1 d2 d3 d4 d5 d6 d7 (List.contains_iff_mem.2 hr)
  obtain ⟨m, n, zx, zy, Bm, Bn, h⟩ := h
  simp only [Bool.and_eq_true] at hc
  obtain ⟨c1, c0⟩ := hc
  have n6 : d6 = true → False := fun e => no_case c1 (h.l6 e).1
  refine wpOp_call2 (o := o2_1) rfl rfl (run2_1 (h.r0 c0)) (of2_own p w0 W hp h.fr) ?_
  rintro e V ⟨x, rfl, hx, ho, hf⟩
  refine ⟨_, rfl, x, n, zx, zy, W.heap.size, Bn, ?_⟩
  show IR2 A0 w0 p q b c d0 true d2 d3 d4 d5 d6 d7 (a.put (some 20) _) V x n zx zy W.heap.size Bn
  exact { fs := by rw [put_size]; exact h.fs, fd := by rw [put_defers]; exact h.fd, sm := fun t n0 n1 n2 n3 n4 n5 => (ev_ne (d := 20) (Ne.symm n1)).trans (h.sm t n0 n1 n2 n3 n4 n5), e2 := (ev_ne (d := 20) (t := 2) (by decide)).trans h.e2, e3 := (ev_ne (d := 20) (t := 3) (by decide)).trans h.e3, g1 := (Fresh.at hf (h.g1)), g2 := (Fresh.at hf (h.g2)), fr := h.fr.trans hf, bz := h.bz, cz := h.cz, r0 := fun t => (ev_ne (d := 20) (t := 19) (by decide)).trans (h.r0 t), r1 := fun _ => ⟨ev_same (by rw [h.fs]; decide), hx, ho⟩, r2 := fun t => (ev_ne (d := 20) (t := 21) (by decide)).trans (h.r2 t), r3 := fun t => ⟨(ev_ne (d := 20) (t := 22) (by decide)).trans (h.r3 t).1, (h.r3 t).2.1, (own2_fresh ((h.r3 t).2.2) hf)⟩, r4 := fun t => ⟨(ev_ne (d := 20) (t := 5) (by decide)).trans (h.r4 t).1, (h.r4 t).2.1, fun u => (n6 u).elim, fun u => (Fresh.at hf ((h.r4 t).2.2.2 u))⟩, r5 := fun t => ⟨(ev_ne (d := 20) (t := 6) (by decide)).trans (h.r5 t).1, (h.r5 t).2.1, fun u => (Fresh.at hf ((h.r5 t).2.2.1 u)), fun u => (Fresh.at hf ((h.r5 t).2.2.2 u))⟩, ne := h.ne, l6 := fun e => ⟨rfl, (h.l6 e).2⟩, l7 := h.l7 }
theorem step2_3 (hq : q.At w0) (h : IC2 A0 w0 p q b c d0 d1 d2 d3 d4 d5 d6 d7 a W) (hr : 3 ∈ Region.ready .any ops2 #[d0, d1, d2, d3, d4, d5, d6, d7]) : wpOp Try.prog ops2 Q 3 (IC2 A0 w0 p q b c d0 d1 d2 true d4 d5 d6 d7) a W := by
  have hc := r2_3 d0 d1 d2 d3 d4 d5 d6 d7 (List.contains_iff_mem.2 hr)
  obtain ⟨m, n, zx, zy, Bm, Bn, h⟩ := h
  simp only [Bool.and_eq_true] at hc
  obtain ⟨⟨c3, c2⟩, c1⟩ := hc
  have n7 : d7 = true → False := fun e => no_case c3 (h.l7 e).1
  refine wpOp_call2 (o := o2_3) rfl rfl (run2_3 (h.r2 c2)) (of2_own q w0 W hq h.fr) ?_
  rintro e V ⟨x, rfl, hx, ho, hf⟩
  refine ⟨_, rfl, m, x, zx, zy, Bm, W.heap.size, ?_⟩
  show IR2 A0 w0 p q b c d0 d1 d2 true d4 d5 d6 d7 (a.put (some 22) _) V m x zx zy Bm W.heap.size
  exact { fs := by rw [put_size]; exact h.fs, fd := by rw [put_defers]; exact h.fd, sm := fun t n0 n1 n2 n3 n4 n5 => (ev_ne (d := 22) (Ne.symm n3)).trans (h.sm t n0 n1 n2 n3 n4 n5), e2 := (ev_ne (d := 22) (t := 2) (by decide)).trans h.e2, e3 := (ev_ne (d := 22) (t := 3) (by decide)).trans h.e3, g1 := (Fresh.at hf (h.g1)), g2 := (Fresh.at hf (h.g2)), fr := h.fr.trans hf, bz := h.bz, cz := h.cz, r0 := fun t => (ev_ne (d := 22) (t := 19) (by decide)).trans (h.r0 t), r1 := fun t => ⟨(ev_ne (d := 22) (t := 20) (by decide)).trans (h.r1 t).1, (h.r1 t).2.1, (own2_fresh ((h.r1 t).2.2) hf)⟩, r2 := fun t => (ev_ne (d := 22) (t := 21) (by decide)).trans (h.r2 t), r3 := fun _ => ⟨ev_same (by rw [h.fs]; decide), hx, ho⟩, r4 := fun t => ⟨(ev_ne (d := 22) (t := 5) (by decide)).trans (h.r4 t).1, (h.r4 t).2.1, fun u => (Fresh.at hf ((h.r4 t).2.2.1 u)), fun u => (Fresh.at hf ((h.r4 t).2.2.2 u))⟩, r5 := fun t => ⟨(ev_ne (d := 22) (t := 6) (by decide)).trans (h.r5 t).1, (h.r5 t).2.1, fun u => (n7 u).elim, fun u => (Fresh.at hf ((h.r5 t).2.2.2 u))⟩, ne := h.ne, l6 := h.l6, l7 := fun e => ⟨rfl, (h.l7 e).2.1, (h.l7 e).2.2⟩ }
theorem step2_4 (h : IC2 A0 w0 p q b c d0 d1 d2 d3 d4 d5 d6 d7 a W) (hr : 4 ∈ Region.ready .any ops2 #[d0, d1, d2, d3, d4, d5, d6, d7]) : wpOp Try.prog ops2 Q 4 (IC2 A0 w0 p q b c d0 d1 d2 d3 true d5 d6 d7) a W := by
  have hc := r2_4 d0 d1 d2 d3 d4 d5 d6 d7 (List.contains_iff_mem.2 hr)
  obtain ⟨m, n, zx, zy, Bm, Bn, h⟩ := h
  have n6 : d6 = true → False := fun e => no_case hc (h.l6 e).2
  have hf : Fresh W (W.alloc zero2) := (Fresh.refl W).alloc zero2
  refine wpOp_run (o := o2_4) rfl rfl run2_4 ⟨m, n, W.heap.size, zy, Bm, Bn, ?_⟩
  show IR2 A0 w0 p q b c d0 d1 d2 d3 true d5 d6 d7 (a.put (some 5) _) (W.alloc zero2) m n W.heap.size zy Bm Bn
  exact { fs := by rw [put_size]; exact h.fs, fd := by rw [put_defers]; exact h.fd, sm := fun t n0 n1 n2 n3 n4 n5 => (ev_ne (d := 5) (Ne.symm n4)).trans (h.sm t n0 n1 n2 n3 n4 n5), e2 := (ev_ne (d := 5) (t := 2) (by decide)).trans h.e2, e3 := (ev_ne (d := 5) (t := 3) (by decide)).trans h.e3, g1 := (Fresh.at hf (h.g1)), g2 := (Fresh.at hf (h.g2)), fr := h.fr.trans hf, bz := h.bz, cz := h.cz, r0 := fun t => (ev_ne (d := 5) (t := 19) (by decide)).trans (h.r0 t), r1 := fun t => ⟨(ev_ne (d := 5) (t := 20) (by decide)).trans (h.r1 t).1, (h.r1 t).2.1, (own2_fresh ((h.r1 t).2.2) hf)⟩, r2 := fun t => (ev_ne (d := 5) (t := 21) (by decide)).trans (h.r2 t), r3 := fun t => ⟨(ev_ne (d := 5) (t := 22) (by decide)).trans (h.r3 t).1, (h.r3 t).2.1, (own2_fresh ((h.r3 t).2.2) hf)⟩, r4 := fun _ => ⟨ev_same (by rw [h.fs]; decide), h.fr.size, fun u => (n6 u).elim, fun _ => at_new W zero2⟩, r5 := fun t => ⟨(ev_ne (d := 5) (t := 6) (by decide)).trans (h.r5 t).1, (h.r5 t).2.1, fun u => (Fresh.at hf ((h.r5 t).2.2.1 u)), fun u => (Fresh.at hf ((h.r5 t).2.2.2 u))⟩, ne := fun _ t => Nat.ne_of_gt (h.lt5 t), l6 := fun e => ⟨(h.l6 e).1, rfl⟩, l7 := h.l7 }
theorem step2_5 (h : IC2 A0 w0 p q b c d0 d1 d2 d3 d4 d5 d6 d7 a W) (hr : 5 ∈ Region.ready .any ops2 #[d0, d1, d2, d3, d4, d5, d6, d7]) : wpOp Try.prog ops2 Q 5 (IC2 A0 w0 p q b c d0 d1 d2 d3 d4 true d6 d7) a W := by
  have hc := r2_5 d0 d1 d2 d3 d4 d5 d6 d7 (List.contains_iff_mem.2 hr)
  obtain ⟨m, n, zx, zy, Bm, Bn, h⟩ := h
  have n7 : d7 = true → False := fun e => no_case hc (h.l7 e).2.1
  have hf : Fresh W (W.alloc zero2) := (Fresh.refl W).alloc zero2
  refine wpOp_run (o := o2_5) rfl rfl run2_5 ⟨m, n, zx, W.heap.size, Bm, Bn, ?_⟩
  show IR2 A0 w0 p q b c d0 d1 d2 d3 d4 true d6 d7 (a.put (some 6) _) (W.alloc zero2) m n zx W.heap.size Bm Bn
  exact { fs := by rw [put_size]; exact h.fs, fd := by rw [put_defers]; exact h.fd, sm := fun t n0 n1 n2 n3 n4 n5 => (ev_ne (d := 6) (Ne.symm n5)).trans (h.sm t n0 n1 n2 n3 n4 n5), e2 := (ev_ne (d := 6) (t := 2) (by decide)).trans h.e2, e3 := (ev_ne (d := 6) (t := 3) (by decide)).trans h.e3, g1 := (Fresh.at hf (h.g1)), g2 := (Fresh.at hf (h.g2)), fr := h.fr.trans hf, bz := h.bz, cz := h.cz, r0 := fun t => (ev_ne (d := 6) (t := 19) (by decide)).trans (h.r0 t), r1 := fun t => ⟨(ev_ne (d := 6) (t := 20) (by decide)).trans (h.r1 t).1, (h.r1 t).2.1, (own2_fresh ((h.r1 t).2.2) hf)⟩, r2 := fun t => (ev_ne (d := 6) (t := 21) (by decide)).trans (h.r2 t), r3 := fun t => ⟨(ev_ne (d := 6) (t := 22) (by decide)).trans (h.r3 t).1, (h.r3 t).2.1, (own2_fresh ((h.r3 t).2.2) hf)⟩, r4 := fun t => ⟨(ev_ne (d := 6) (t := 5) (by decide)).trans (h.r4 t).1, (h.r4 t).2.1, fun u => (Fresh.at hf ((h.r4 t).2.2.1 u)), fun u => (Fresh.at hf ((h.r4 t).2.2.2 u))⟩, r5 := fun _ => ⟨ev_same (by rw [h.fs]; decide), h.fr.size, fun u => (n7 u).elim, fun _ => at_new W zero2⟩, ne := fun t _ => Nat.ne_of_lt (h.lt4 t), l6 := h.l6, l7 := fun e => ⟨(h.l7 e).1, rfl, (h.l7 e).2.2⟩ }
theorem step2_6 (h : IC2 A0 w0 p q b c d0 d1 d2 d3 d4 d5 d6 d7 a W) (hr : 6 ∈ Region.ready .any ops2 #[d0, d1, d2, d3, d4, d5, d6, d7]) : wpOp Try.prog ops2 Q 6 (IC2 A0 w0 p q b c d0 d1 d2 d3 d4 d5 true d7) a W := by
  have hc := r2_6 d0 d1 d2 d3 d4 d5 d6 d7 (List.contains_iff_mem.2 hr)
  obtain ⟨m, n, zx, zy, Bm, Bn, h⟩ := h
  simp only [Bool.and_eq_true] at hc
  obtain ⟨⟨⟨c6, c4⟩, c1⟩, c3⟩ := hc
  have e6 : d6 = false := by simpa using c6
  have hz := (h.r4 c4).2.2.2 e6
  have hzw := (h.r4 c4).2.1
  have nb : b ≠ zx := Nat.ne_of_lt (Nat.lt_of_lt_of_le h.bz hzw)
  have nc : c ≠ zx := Nat.ne_of_lt (Nat.lt_of_lt_of_le h.cz hzw)
  refine wpOp_skip (o := o2_6) rfl rfl rfl (run2_6 (h.r4 c4).1 (h.r1 c1).1 hz) ⟨m, n, zx, zy, Bm, Bn, ?_⟩
  exact { h with g1 := set2_off h.g1 nb, g2 := set2_off h.g2 nc, fr := set2_fresh h.fr hzw, r1 := fun t => ⟨(h.r1 t).1, (h.r1 t).2.1, set2_own (h.r1 t).2.2 hz⟩, r3 := fun t => ⟨(h.r3 t).1, (h.r3 t).2.1, set2_own (h.r3 t).2.2 hz⟩, r4 := fun t => ⟨(h.r4 t).1, (h.r4 t).2.1, fun _ => set2_box hz, fun e => (nomatch e)⟩, r5 := fun t => ⟨(h.r5 t).1, (h.r5 t).2.1, fun u => set2_off ((h.r5 t).2.2.1 u) (Ne.symm (h.ne c4 t)), fun u => set2_off ((h.r5 t).2.2.2 u) (Ne.symm (h.ne c4 t))⟩, l6 := fun _ => ⟨c1, c4⟩, l7 := fun e => ⟨(h.l7 e).1, (h.l7 e).2.1, rfl⟩ }
theorem step2_7 (h : IC2 A0 w0 p q b c d0 d1 d2 d3 d4 d5 d6 d7 a W) (hr : 7 ∈ Region.ready .any ops2 #[d0, d1, d2, d3, d4, d5, d6, d7]) : wpOp Try.prog ops2 Q 7 (IC2 A0 w0 p q b c d0 d1 d2 d3 d4 d5 d6 true) a W := by
  have hc := r2_7 d0 d1 d2 d3 d4 d5 d6 d7 (List.contains_iff_mem.2 hr)
  obtain ⟨m, n, zx, zy, Bm, Bn, h⟩ := h
  simp only [Bool.and_eq_true] at hc
  obtain ⟨⟨⟨c7, c5⟩, c3⟩, c6⟩ := hc
  have e7 : d7 = false := by simpa using c7
  have hz := (h.r5 c5).2.2.2 e7
  have hzw := (h.r5 c5).2.1
  have nb : b ≠ zy := Nat.ne_of_lt (Nat.lt_of_lt_of_le h.bz hzw)
  have nc : c ≠ zy := Nat.ne_of_lt (Nat.lt_of_lt_of_le h.cz hzw)
  refine wpOp_skip (o := o2_7) rfl rfl rfl (run2_7 (h.r5 c5).1 (h.r3 c3).1 hz) ⟨m, n, zx, zy, Bm, Bn, ?_⟩
  exact { h with g1 := set2_off h.g1 nb, g2 := set2_off h.g2 nc, fr := set2_fresh h.fr hzw, r1 := fun t => ⟨(h.r1 t).1, (h.r1 t).2.1, set2_own (h.r1 t).2.2 hz⟩, r3 := fun t => ⟨(h.r3 t).1, (h.r3 t).2.1, set2_own (h.r3 t).2.2 hz⟩, r4 := fun t => ⟨(h.r4 t).1, (h.r4 t).2.1, fun u => set2_off ((h.r4 t).2.2.1 u) (h.ne t c5), fun u => set2_off ((h.r4 t).2.2.2 u) (h.ne t c5)⟩, r5 := fun t => ⟨(h.r5 t).1, (h.r5 t).2.1, fun _ => set2_box hz, fun e => (nomatch e)⟩, l7 := fun _ => ⟨c3, c5, c6⟩ }
end
/-- What the region leaves. -/
structure Res2 (A0 : Act) (w0 : World) (p q : SM2) (b c : Nat) (a : Act) (W : World) (m n : SM2) (zx zy : Nat) : Prop where
  fs : a.tmps.size = 72
  fd : a.defers = []
  sm : ∀ t, t ≠ 19 → t ≠ 20 → t ≠ 21 → t ≠ 22 → t ≠ 5 → t ≠ 6 → a.eval (.tmp t) = A0.eval (.tmp t)
  eb0 : a.eval (.tmp 5) = .pointer (some ⟨zx, 0, none⟩)
  eb1 : a.eval (.tmp 6) = .pointer (some ⟨zy, 0, none⟩)
  es0 : a.eval (.tmp 19) = p.val
  es1 : a.eval (.tmp 20) = m.val
  es2 : a.eval (.tmp 21) = q.val
  es3 : a.eval (.tmp 22) = n.val
  mp : m.seq = p.seq ∧ m.l = p.l
  nq : n.seq = q.seq ∧ n.l = q.l
  om : ∃ B, m.Own W B
  on : ∃ B, n.Own W B
  g1 : W.heap[b]? = some (p.obj 49)
  g2 : W.heap[c]? = some (q.obj 49)
  g3 : W.heap[zx]? = some (m.obj 53)
  g4 : W.heap[zy]? = some (n.obj 53)
  fr : Fresh w0 W
/-- The region, whatever order Go takes it in. -/
theorem region2 {A0 : Act} {w0 : World} {p q : SM2} {b c : Nat} {Q : Exit → Act → World → Prop} {W : World} (hp : p.At w0) (hq : q.At w0)
    (fs : A0.tmps.size = 72) (fd : A0.defers = []) (e2 : A0.eval (.tmp 2) = .pointer (some ⟨b, 0, none⟩)) (e3 : A0.eval (.tmp 3) = .pointer (some ⟨c, 0, none⟩)) (g1 : W.heap[b]? = some (p.obj 49)) (g2 : W.heap[c]? = some (q.obj 49)) (fr : Fresh w0 W) (bz : b < w0.heap.size) (cz : c < w0.heap.size)
    (hQ : ∀ a' W' m n zx zy, Res2 A0 w0 p q b c a' W' m n zx zy → Q .normal a' W') :
    wpAny Try.prog .any ops2 Q 8 #[false, false, false, false, false, false, false, false] A0 W := by
  refine any8 (IC2 A0 w0 p q b c) ?_ ?_ ?_ (fun _ _ _ _ _ _ _ _ _ _ h hr => step2_0 h hr) (fun _ _ _ _ _ _ _ _ _ _ h hr => step2_1 hp h hr) (fun _ _ _ _ _ _ _ _ _ _ h hr => step2_2 h hr) (fun _ _ _ _ _ _ _ _ _ _ h hr => step2_3 hq h hr) (fun _ _ _ _ _ _ _ _ _ _ h hr => step2_4 h hr) (fun _ _ _ _ _ _ _ _ _ _ h hr => step2_5 h hr) (fun _ _ _ _ _ _ _ _ _ _ h hr => step2_6 h hr) (fun _ _ _ _ _ _ _ _ _ _ h hr => step2_7 h hr) 8 _ _ _ _ _ _ _ _ A0 W (by decide) ⟨p, q, 0, 0, 0, 0, ?_⟩
  · intro d0 d1 d2 d3 d4 d5 d6 d7 a' W' h hr
    have hd := r2_done d0 d1 d2 d3 d4 d5 d6 d7 (by rw [hr]; rfl)
    simp only [Bool.and_eq_true] at hd
    obtain ⟨⟨⟨⟨⟨⟨⟨t0, t1⟩, t2⟩, t3⟩, t4⟩, t5⟩, t6⟩, t7⟩ := hd
    obtain ⟨m, n, zx, zy, Bm, Bn, h⟩ := h
    exact hQ a' W' m n zx zy ⟨h.fs, h.fd, h.sm, (h.r4 t4).1, (h.r5 t5).1, h.r0 t0, (h.r1 t1).1, h.r2 t2, (h.r3 t3).1, (h.r1 t1).2.1, (h.r3 t3).2.1, ⟨_, (h.r1 t1).2.2⟩, ⟨_, (h.r3 t3).2.2⟩, h.g1, h.g2, (h.r4 t4).2.2.1 t6, (h.r5 t5).2.2.1 t7, h.fr⟩
  · intro d0 d1 d2 d3 d4 d5 d6 d7 k hk
    have := List.all_eq_true.1 (r2_lt d0 d1 d2 d3 d4 d5 d6 d7) k hk
    simpa using this
  · decide +kernel
  · exact { fs := fs, fd := fd, sm := fun t _ _ _ _ _ _ => rfl, e2 := e2, e3 := e3, g1 := g1, g2 := g2, fr := fr, bz := bz, cz := cz, r0 := fun e => (nomatch e), r1 := fun e => (nomatch e), r2 := fun e => (nomatch e), r3 := fun e => (nomatch e), r4 := fun e => (nomatch e), r5 := fun e => (nomatch e), ne := fun e => (nomatch e), l6 := fun e => (nomatch e), l7 := fun e => (nomatch e) }
end Go.Proofs.Ytphjhlnjfcfdcaa
namespace Go.Proofs.Ytphjhlnjfcfdcaa
open Go.ChangeShapes Go.WideShapes Go.ChangeAt Go.RowKit
set_option maxRecDepth 100000
set_option linter.unusedSimpArgs false

/-- A pod's bytes ahead of its containers. -/
def head2L (p : P2) : List UInt8 := txtL p.file ++ (txtL p.name ++ (txtL p.ns ++ (be 1 p.r.toNat ++ (be 2 p.g.toNat ++ be 1 p.cs.length))))
theorem pod2L_head (p : P2) : pod2L p = head2L p ++ p.cs.flatMap cL := by
  rw [pod2L, head2L]; simp only [List.append_assoc]
theorem head2_parts (X : ByteArray) (p : P2) : X ++ tx (txtL p.file) ++ tx (txtL p.name) ++ tx (txtL p.ns) ++ beS 1 p.r.toNat ++ beS 2 p.g.toNat ++ beS 1 p.cs.length = X ++ tx (head2L p) := by
  apply list_ext
  simp only [app_list, tx_toList, beS_tx, head2L, List.append_assoc]
set_option maxHeartbeats 16000000 in
theorem rbytes2_any (seq : Int) (a : Option Addr) (l : List M2) (c : Nat) (w : World) (h : Row2 w a l) (hf : ∀ p ∈ pods2 l, p.Fit 255 ∧ p.cs.length ≤ 16) (hlen : l.length ≤ 1024) (hs0 : 0 ≤ seq) (hs1 : seq ≤ 18446744073709551615) :
    Calls Try.prog 28 #[st2 seq a l.length c] w fun e w' => e = .returned (.string (tx (enc2L seq (pods2 l)))) ∧ Fresh w w' := by
  have HA := Lib.hid (at_new w (.cells #[.int .u64 seq, .slice a l.length c] 53))
  have HF0 := Lib.hid ((Fresh.refl w).alloc (.cells #[.int .u64 seq, .slice a l.length c] 53))
  have HROW := Lib.hid (h.move HF0.out)
  have HFT := Lib.hid hf
  have hpl : (pods2 l).length = l.length := by simp [pods2]
  have HENC : Hid (enc2L seq (pods2 l) = be 8 seq.toNat ++ (be 2 l.length ++ (pods2 l).flatMap pod2L)) := by rw [Hid, enc2L, hpl]
  have HP8 := Lib.hid (fun W => rput_yes 8 seq W (by decide) hs0 (by omega))
  have HP2 := Lib.hid (fun W => rput_yes 2 (l.length : Int) W (by decide) (by omega) (by omega))
  have hw2 : IntKind.u64.wrap (l.length : Int) = (l.length : Int) := wrap_u64' (by omega) (by omega)
  have HH : Hid (beS 8 seq.toNat ++ beS 2 l.length = tx (be 8 seq.toNat ++ (be 2 l.length ++ ((pods2 l).take 0).flatMap pod2L))) := by
    rw [Hid, beS_tx, beS_tx, tx_app]; simp
  rw [show (8 : Int).toNat = 8 from rfl] at HP8
  rw [show (2 : Int).toNat = 2 from rfl, Int.toNat_natCast] at HP2
  have y1 : (beS 8 seq.toNat).size = 8 := beS_size _ _
  have y2 : (beS 2 l.length).size = 2 := beS_size _ _
  generalize beS 8 seq.toNat = S8 at *
  generalize beS 2 l.length = S2 at *
  have ah := add_run S8 S2 _ (by omega) HH.out
  dsimp only [st2] at *
  clear h hf
  go_enter Try.func28, Try.ntmps28
  go_wp2_with (fail)
  generalize w.alloc (.cells #[.int .u64 seq, .slice a l.length c] 53) = W1 at *
  obtain ⟨z, hz⟩ : ∃ z, z = w.heap.size := ⟨_, rfl⟩
  rw [← hz] at HA ⊢
  clear hz
  have HKP : Hid (∀ W, Fresh W1 W → W.cell? ⟨z, 0, none⟩ = some (.int .u64 seq) ∧ W.cell? ⟨z, 1, none⟩ = some (.slice a l.length c)) := fun W f =>
    ⟨(st2_box (f.at HA.out)).1, (st2_box (f.at HA.out)).2.1⟩
  obtain ⟨k0, k1⟩ := HKP.out W1 (.refl _)
  have HK : Hid (Fresh W1 W1.drew) := (Fresh.refl W1).drew
  go_region_held3 (fun w' => (w'.cell? ⟨z, 0, none⟩ = some (.int .u64 seq) ∧ w'.cell? ⟨z, 1, none⟩ = some (.slice a l.length c))) (go_keep)
    (first
      | (go_at_call 42; (with_reducible refine (HP8.out _).mono ?_); rintro e W2 ⟨rfl, hf⟩; have HK := Lib.hid (HK.out.trans hf); obtain ⟨k0, k1⟩ := HKP.out _ HK.out; clear hf)
      | (go_at_call 42; (with_reducible refine (HP2.out _).mono ?_); rintro e W2 ⟨rfl, hf⟩; have HK := Lib.hid (HK.out.trans hf); obtain ⟨k0, k1⟩ := HKP.out _ HK.out; clear hf))
  go_wp2
  clear k0 k1
  go_loopw [3, 4] (fun a3 a4 wr => ∃ (k : Nat), a4 = .int .i64 (k : Int) ∧ a3 = .string (tx (be 8 seq.toNat ++ (be 2 l.length ++ ((pods2 l).take k).flatMap pod2L))) ∧ k ≤ l.length ∧ Hid (Fresh W1 wr)) (fun _ a4 _ => l.length - (intOf a4).toNat)
  case atStart => exact ⟨0, rfl, rfl, Nat.zero_le _, HK.out⟩
  case round =>
  clear HK
  obtain ⟨k, rfl, rfl, hk, HF⟩ := hrel
  obtain ⟨q0, q1⟩ := HKP.out _ HF.out
  by_cases hlt : k < l.length
  case pos =>
    have hR := HROW.out.move HF.out
    obtain ⟨gb, o1, rfl, hc⟩ := m2_form hR.row hlt
    obtain ⟨c0, c1, c2, c3, c4, c5⟩ := hc k hlt
    have hkp : k < (pods2 l).length := by omega
    have hpk : (pods2 l)[k] = l[k].p := by simp [pods2]
    have hfi := HFT.out _ (List.getElem_mem hkp)
    rw [hpk] at hfi
    have HFI := Lib.hid hfi
    have HIN := Lib.hid (hR.ins _ (List.getElem_mem hlt)).1
    have hX : (tx (be 8 seq.toNat ++ (be 2 l.length ++ ((pods2 l).take k).flatMap pod2L))).size ≤ 10000000 := by
      have h1 := flat_le pod2L 9000 ((pods2 l).take k) (fun p hp => pod2L_len (HFT.out p (List.mem_of_mem_take hp)).1 (HFT.out p (List.mem_of_mem_take hp)).2)
      have h3 : ((pods2 l).take k).length * 9000 ≤ 1024 * 9000 := Nat.mul_le_mul (by rw [List.length_take]; omega) (Nat.le_refl _)
      rw [tx_size]
      simp only [List.length_append, be_length]
      omega
    have HXX : Hid (tx (be 8 seq.toNat ++ (be 2 l.length ++ ((pods2 l).take (k + 1)).flatMap pod2L)) = tx (be 8 seq.toNat ++ (be 2 l.length ++ ((pods2 l).take k).flatMap pod2L)) ++ tx (pod2L l[k].p)) := by
      rw [Hid, tx_app, List.take_succ_eq_append_getElem hkp, List.flatMap_append, hpk]; simp
    clear hc hR hkp hpk hfi
    generalize tx (be 8 seq.toNat ++ (be 2 l.length ++ ((pods2 l).take k).flatMap pod2L)) = X at *
    obtain ⟨X', hX'⟩ : ∃ X', X' = tx (be 8 seq.toNat ++ (be 2 l.length ++ ((pods2 l).take (k + 1)).flatMap pod2L)) := ⟨_, rfl⟩
    rw [← hX', pod2L_head, ← tx_app] at HXX
    have HX' := Lib.hid hX'
    clear hX'
    generalize l[k] = m at *
    obtain ⟨⟨file, name, ns, r, g, cs⟩, ca, cc⟩ := m
    have HIN : Hid (RowAt wr ca (c2s cs)) := HIN.out
    have HFC : Hid (∀ x ∈ cs, x.name.size ≤ 255 ∧ x.image.size ≤ 255) := HFI.out.1.cs
    have H1 := Lib.hid (fun W => rtext_tx file W (Nat.le_trans HFI.out.1.file (by decide)))
    have H2 := Lib.hid (fun W => rtext_tx name W (Nat.le_trans HFI.out.1.name (by decide)))
    have H3 := Lib.hid (fun W => rtext_tx ns W (Nat.le_trans HFI.out.1.ns (by decide)))
    have hr0 : 0 ≤ r := HFI.out.1.r0
    have hr1 : r ≤ 255 := HFI.out.1.r1
    have hg0 : 0 ≤ g := HFI.out.1.g0
    have hg1 : g ≤ 65535 := HFI.out.1.g1
    have hl16 : cs.length ≤ 16 := HFI.out.2
    have hcv := conv_byte r hr0 hr1
    have H5 := Lib.hid (fun W => rput_at 2 g W (by decide) hg0 (by omega))
    have H6 := Lib.hid (fun W => rput_at 1 (cs.length : Int) W (by decide) (by omega) (by omega))
    rw [show (2 : Int).toNat = 2 from rfl] at H5
    rw [show (1 : Int).toNat = 1 from rfl, Int.toNat_natCast] at H6
    have hw16 := wrap_u64' hg0 (by omega)
    have hwl : IntKind.u64.wrap (cs.length : Int) = (cs.length : Int) := wrap_u64' (by omega) (by omega)
    have z1 : (tx (txtL file)).size ≤ 300 := by rw [tx_size, txtL_len]; have := HFI.out.1.file; dsimp only at this; omega
    have z2 : (tx (txtL name)).size ≤ 300 := by rw [tx_size, txtL_len]; have := HFI.out.1.name; dsimp only at this; omega
    have z3 : (tx (txtL ns)).size ≤ 300 := by rw [tx_size, txtL_len]; have := HFI.out.1.ns; dsimp only at this; omega
    have z4 : (beS 1 r.toNat).size = 1 := beS_size _ _
    have z5 : (beS 2 g.toNat).size = 2 := beS_size _ _
    have z6 : (beS 1 cs.length).size = 1 := beS_size _ _
    have HHP := Lib.hid (head2_parts X ⟨file, name, ns, r, g, cs⟩)
    dsimp only at *
    generalize tx (txtL file) = A at *
    generalize tx (txtL name) = B at *
    generalize tx (txtL ns) = C at *
    generalize beS 1 r.toNat = D at *
    generalize beS 2 g.toNat = E at *
    generalize beS 1 cs.length = G at *
    have s1 : (X ++ A).size ≤ 10001000 := by rw [ByteArray.size_append]; omega
    have s2 : (X ++ A ++ B).size ≤ 10002000 := by rw [ByteArray.size_append]; omega
    have s3 : (X ++ A ++ B ++ C).size ≤ 10003000 := by rw [ByteArray.size_append]; omega
    have s4 : (X ++ A ++ B ++ C ++ D).size ≤ 10004000 := by rw [ByteArray.size_append]; omega
    have s5 : (X ++ A ++ B ++ C ++ D ++ E).size ≤ 10005000 := by rw [ByteArray.size_append]; omega
    have s6 : (X ++ A ++ B ++ C ++ D ++ E ++ G).size ≤ 10006000 := by rw [ByteArray.size_append]; omega
    have a1 := add_run X A _ (by omega) rfl
    have a2 := add_run (X ++ A) B _ (by omega) rfl
    have a3 := add_run (X ++ A ++ B) C _ (by omega) rfl
    have a4 := add_run (X ++ A ++ B ++ C) D _ (by omega) rfl
    have a5 := add_run (X ++ A ++ B ++ C ++ D) E _ (by omega) rfl
    have a6 := add_run (X ++ A ++ B ++ C ++ D ++ E) G _ (by omega) rfl
    generalize X ++ A ++ B ++ C ++ D ++ E ++ G = XG at *
    generalize X ++ A ++ B ++ C ++ D ++ E = XE at *
    generalize X ++ A ++ B ++ C ++ D = XD at *
    generalize X ++ A ++ B ++ C = XABC at *
    generalize X ++ A ++ B = XAB at *
    generalize X ++ A = XA at *
    have HXX : Hid (X' = XG ++ tx (cs.flatMap cL)) := by
      rw [Hid, HXX.out, HHP.out]; apply list_ext; simp only [app_list, List.append_assoc]
    clear HHP
    have HP := Lib.hid (at_new wr (.cells #[.string file, .string name, .string ns, .int .u8 r, .int .u16 g, .slice ca cs.length cc] 103))
    have HF1 := Lib.hid ((Fresh.refl wr).alloc (.cells #[.string file, .string name, .string ns, .int .u8 r, .int .u16 g, .slice ca cs.length cc] 103))
    go_wp2_with (fail)
    all_goals try (exfalso; omega)
    generalize wr.alloc (.cells #[.string file, .string name, .string ns, .int .u8 r, .int .u16 g, .slice ca cs.length cc] 103) = V1 at *
    obtain ⟨y, hy⟩ : ∃ y, y = wr.heap.size := ⟨_, rfl⟩
    rw [← hy] at HP ⊢
    clear hy q0 q1 c0 c1 c2 c3 c4 c5
    have HKQ : Hid (∀ W, Fresh V1 W → W.cell? ⟨y, 0, none⟩ = some (.string file) ∧ W.cell? ⟨y, 1, none⟩ = some (.string name) ∧ W.cell? ⟨y, 2, none⟩ = some (.string ns) ∧ W.cell? ⟨y, 3, none⟩ = some (.int .u8 r) ∧ W.cell? ⟨y, 4, none⟩ = some (.int .u16 g) ∧ W.cell? ⟨y, 5, none⟩ = some (.slice ca cs.length cc)) := fun W f =>
      (m2_box (m := ⟨⟨file, name, ns, r, g, cs⟩, ca, cc⟩) (f.at HP.out)).1
    obtain ⟨k0, k1, k2, k3, k4, k5⟩ := HKQ.out V1 (.refl _)
    have HK : Hid (Fresh V1 V1.drew) := (Fresh.refl V1).drew
    rename_i KK hKK
    refine flow_region [some (Value.string X), some (Value.pointer (some ⟨y, 0, none⟩)), some (Value.string file), some (Value.string A), some (Value.string XA), some (Value.pointer (some ⟨y, 1, none⟩)), some (Value.string name), some (Value.string B), some (Value.string XAB), some (Value.pointer (some ⟨y, 2, none⟩)), some (Value.string ns), some (Value.string C), some (Value.string XABC), some (Value.pointer (some ⟨y, 3, none⟩)), some (Value.int .u8 r), none, some (Value.string D), some (Value.string XD), some (Value.pointer (some ⟨y, 4, none⟩)), some (Value.int .u16 g), some (Value.int .u64 g), some (Value.string E), some (Value.string XE), some (Value.pointer (some ⟨y, 5, none⟩)), some (Value.slice ca cs.length cc), some (Value.int .i64 (cs.length : Int)), some (Value.int .u64 (cs.length : Int)), some (Value.string G), some (Value.string XG), some (Value.string XG)] (fun _ v W => ∃ g, v = .slice (some ⟨g, 0, none⟩) 1 1 ∧ W.cell? ⟨g, 0, none⟩ = some (.int .u8 r)) rfl (n := 82) rfl (by decide +kernel) (fun _ _ _ _ h f => by obtain ⟨g, e, hc⟩ := h; exact ⟨g, e, f.cell hc⟩) ⟨?_, ?_, ?_, ?_, ?_, ?_, ?_, ?_, ?_, ?_, ?_, ?_, ?_, ?_, ?_, ?_, ?_, ?_, ?_, ?_, ?_, ?_, ?_, ?_, ?_, ?_, ?_, ?_, ?_, ?_, trivial⟩ ?_
    · intro a W hf hin hst
      have g3 := ev_get (show a.eval (.tmp 3) = Value.string X from hst 3 (by decide +kernel))
      refine .inl ⟨Value.string X, W, ?_, .refl _, rfl⟩
      simp [execOp, g3, go_sem]
    · intro a W hf hin hst
      have g5 := ev_get (show a.eval (.tmp 5) = Value.pointer (some ⟨y, 0, none⟩) from hst 5 (by decide +kernel))
      refine .inl ⟨Value.pointer (some ⟨y, 0, none⟩), W, ?_, .refl _, rfl⟩
      simp [execOp, g5, go_sem]
    · intro a W hf hin hst
      obtain ⟨k0, k1, k2, k3, k4, k5⟩ := HKQ.out W (HK.out.trans hf)
      have g29 := ev_get (show a.eval (.tmp 29) = Value.pointer (some ⟨y, 0, none⟩) from hin 1 29 (by decide +kernel) (by decide +kernel))
      refine .inl ⟨Value.string file, W, ?_, .refl _, rfl⟩
      simp [execOp, g29, go_sem, k0, k1, k2, k3, k4, k5]
    · intro a W hf hin hst
      have g30 := ev_get (show a.eval (.tmp 30) = Value.string file from hin 2 30 (by decide +kernel) (by decide +kernel))
      exact .inr ⟨43, #[.string file], by simp [execOp, g30, go_sem], (H1.out W).mono (fun e V h => ⟨_, h.1, h.2, rfl⟩)⟩
    · intro a W hf hin hst
      have g28 := ev_get (show a.eval (.tmp 28) = Value.string X from hin 0 28 (by decide +kernel) (by decide +kernel))
      have g31 := ev_get (show a.eval (.tmp 31) = Value.string A from hin 3 31 (by decide +kernel) (by decide +kernel))
      refine .inl ⟨Value.string XA, W, ?_, .refl _, rfl⟩
      simp [execOp, g28, g31, go_sem, a1]
    · intro a W hf hin hst
      have g5 := ev_get (show a.eval (.tmp 5) = Value.pointer (some ⟨y, 0, none⟩) from hst 5 (by decide +kernel))
      refine .inl ⟨Value.pointer (some ⟨y, 1, none⟩), W, ?_, .refl _, rfl⟩
      simp [execOp, g5, go_sem]
    · intro a W hf hin hst
      obtain ⟨k0, k1, k2, k3, k4, k5⟩ := HKQ.out W (HK.out.trans hf)
      have g33 := ev_get (show a.eval (.tmp 33) = Value.pointer (some ⟨y, 1, none⟩) from hin 5 33 (by decide +kernel) (by decide +kernel))
      refine .inl ⟨Value.string name, W, ?_, .refl _, rfl⟩
      simp [execOp, g33, go_sem, k0, k1, k2, k3, k4, k5]
    · intro a W hf hin hst
      have g34 := ev_get (show a.eval (.tmp 34) = Value.string name from hin 6 34 (by decide +kernel) (by decide +kernel))
      exact .inr ⟨43, #[.string name], by simp [execOp, g34, go_sem], (H2.out W).mono (fun e V h => ⟨_, h.1, h.2, rfl⟩)⟩
    · intro a W hf hin hst
      have g32 := ev_get (show a.eval (.tmp 32) = Value.string XA from hin 4 32 (by decide +kernel) (by decide +kernel))
      have g35 := ev_get (show a.eval (.tmp 35) = Value.string B from hin 7 35 (by decide +kernel) (by decide +kernel))
      refine .inl ⟨Value.string XAB, W, ?_, .refl _, rfl⟩
      simp [execOp, g32, g35, go_sem, a2]
    · intro a W hf hin hst
      have g5 := ev_get (show a.eval (.tmp 5) = Value.pointer (some ⟨y, 0, none⟩) from hst 5 (by decide +kernel))
      refine .inl ⟨Value.pointer (some ⟨y, 2, none⟩), W, ?_, .refl _, rfl⟩
      simp [execOp, g5, go_sem]
    · intro a W hf hin hst
      obtain ⟨k0, k1, k2, k3, k4, k5⟩ := HKQ.out W (HK.out.trans hf)
      have g37 := ev_get (show a.eval (.tmp 37) = Value.pointer (some ⟨y, 2, none⟩) from hin 9 37 (by decide +kernel) (by decide +kernel))
      refine .inl ⟨Value.string ns, W, ?_, .refl _, rfl⟩
      simp [execOp, g37, go_sem, k0, k1, k2, k3, k4, k5]
    · intro a W hf hin hst
      have g38 := ev_get (show a.eval (.tmp 38) = Value.string ns from hin 10 38 (by decide +kernel) (by decide +kernel))
      exact .inr ⟨43, #[.string ns], by simp [execOp, g38, go_sem], (H3.out W).mono (fun e V h => ⟨_, h.1, h.2, rfl⟩)⟩
    · intro a W hf hin hst
      have g36 := ev_get (show a.eval (.tmp 36) = Value.string XAB from hin 8 36 (by decide +kernel) (by decide +kernel))
      have g39 := ev_get (show a.eval (.tmp 39) = Value.string C from hin 11 39 (by decide +kernel) (by decide +kernel))
      refine .inl ⟨Value.string XABC, W, ?_, .refl _, rfl⟩
      simp [execOp, g36, g39, go_sem, a3]
    · intro a W hf hin hst
      have g5 := ev_get (show a.eval (.tmp 5) = Value.pointer (some ⟨y, 0, none⟩) from hst 5 (by decide +kernel))
      refine .inl ⟨Value.pointer (some ⟨y, 3, none⟩), W, ?_, .refl _, rfl⟩
      simp [execOp, g5, go_sem]
    · intro a W hf hin hst
      obtain ⟨k0, k1, k2, k3, k4, k5⟩ := HKQ.out W (HK.out.trans hf)
      have g41 := ev_get (show a.eval (.tmp 41) = Value.pointer (some ⟨y, 3, none⟩) from hin 13 41 (by decide +kernel) (by decide +kernel))
      refine .inl ⟨Value.int .u8 r, W, ?_, .refl _, rfl⟩
      simp [execOp, g41, go_sem, k0, k1, k2, k3, k4, k5]
    · intro a W hf hin hst
      have g42 := ev_get (show a.eval (.tmp 42) = Value.int .u8 r from hin 14 42 (by decide +kernel) (by decide +kernel))
      refine .inl ⟨.slice (some ⟨W.heap.size, 0, none⟩) 1 1, W.alloc (.cells #[.int .u8 r] 5), ?_, (Fresh.refl W).alloc _, ⟨W.heap.size, rfl, cell_of_at (at_new _ _) rfl⟩⟩
      simp [execOp, g42, go_sem]
    · intro a W hf hin hst
      obtain ⟨g, e43, hc⟩ : ∃ g, a.eval (.tmp 43) = .slice (some ⟨g, 0, none⟩) 1 1 ∧ W.cell? ⟨g, 0, none⟩ = some (.int .u8 r) := (hin 15 43 (by decide +kernel) (by decide +kernel))
      have g43 := ev_get e43
      refine .inl ⟨Value.string D, W, ?_, .refl _, rfl⟩
      simp [execOp, g43, go_sem, hcv _ _ hc]
    · intro a W hf hin hst
      have g40 := ev_get (show a.eval (.tmp 40) = Value.string XABC from hin 12 40 (by decide +kernel) (by decide +kernel))
      have g44 := ev_get (show a.eval (.tmp 44) = Value.string D from hin 16 44 (by decide +kernel) (by decide +kernel))
      refine .inl ⟨Value.string XD, W, ?_, .refl _, rfl⟩
      simp [execOp, g40, g44, go_sem, a4]
    · intro a W hf hin hst
      have g5 := ev_get (show a.eval (.tmp 5) = Value.pointer (some ⟨y, 0, none⟩) from hst 5 (by decide +kernel))
      refine .inl ⟨Value.pointer (some ⟨y, 4, none⟩), W, ?_, .refl _, rfl⟩
      simp [execOp, g5, go_sem]
    · intro a W hf hin hst
      obtain ⟨k0, k1, k2, k3, k4, k5⟩ := HKQ.out W (HK.out.trans hf)
      have g46 := ev_get (show a.eval (.tmp 46) = Value.pointer (some ⟨y, 4, none⟩) from hin 18 46 (by decide +kernel) (by decide +kernel))
      refine .inl ⟨Value.int .u16 g, W, ?_, .refl _, rfl⟩
      simp [execOp, g46, go_sem, k0, k1, k2, k3, k4, k5]
    · intro a W hf hin hst
      have g47 := ev_get (show a.eval (.tmp 47) = Value.int .u16 g from hin 19 47 (by decide +kernel) (by decide +kernel))
      refine .inl ⟨Value.int .u64 g, W, ?_, .refl _, rfl⟩
      simp [execOp, g47, go_sem, hw16]
    · intro a W hf hin hst
      have g48 := ev_get (show a.eval (.tmp 48) = Value.int .u64 g from hin 20 48 (by decide +kernel) (by decide +kernel))
      exact .inr ⟨42, #[.int .i64 2, .int .u64 g], by simp [execOp, g48, go_sem], (H5.out W).mono (fun e V h => ⟨_, h.1, h.2, rfl⟩)⟩
    · intro a W hf hin hst
      have g45 := ev_get (show a.eval (.tmp 45) = Value.string XD from hin 17 45 (by decide +kernel) (by decide +kernel))
      have g49 := ev_get (show a.eval (.tmp 49) = Value.string E from hin 21 49 (by decide +kernel) (by decide +kernel))
      refine .inl ⟨Value.string XE, W, ?_, .refl _, rfl⟩
      simp [execOp, g45, g49, go_sem, a5]
    · intro a W hf hin hst
      have g5 := ev_get (show a.eval (.tmp 5) = Value.pointer (some ⟨y, 0, none⟩) from hst 5 (by decide +kernel))
      refine .inl ⟨Value.pointer (some ⟨y, 5, none⟩), W, ?_, .refl _, rfl⟩
      simp [execOp, g5, go_sem]
    · intro a W hf hin hst
      obtain ⟨k0, k1, k2, k3, k4, k5⟩ := HKQ.out W (HK.out.trans hf)
      have g51 := ev_get (show a.eval (.tmp 51) = Value.pointer (some ⟨y, 5, none⟩) from hin 23 51 (by decide +kernel) (by decide +kernel))
      refine .inl ⟨Value.slice ca cs.length cc, W, ?_, .refl _, rfl⟩
      simp [execOp, g51, go_sem, k0, k1, k2, k3, k4, k5]
    · intro a W hf hin hst
      have g52 := ev_get (show a.eval (.tmp 52) = Value.slice ca cs.length cc from hin 24 52 (by decide +kernel) (by decide +kernel))
      refine .inl ⟨Value.int .i64 (cs.length : Int), W, ?_, .refl _, rfl⟩
      simp [execOp, g52, go_sem]
    · intro a W hf hin hst
      have g53 := ev_get (show a.eval (.tmp 53) = Value.int .i64 (cs.length : Int) from hin 25 53 (by decide +kernel) (by decide +kernel))
      refine .inl ⟨Value.int .u64 (cs.length : Int), W, ?_, .refl _, rfl⟩
      simp [execOp, g53, go_sem, hwl]
    · intro a W hf hin hst
      have g54 := ev_get (show a.eval (.tmp 54) = Value.int .u64 (cs.length : Int) from hin 26 54 (by decide +kernel) (by decide +kernel))
      exact .inr ⟨42, #[.int .i64 1, .int .u64 (cs.length : Int)], by simp [execOp, g54, go_sem], (H6.out W).mono (fun e V h => ⟨_, h.1, h.2, rfl⟩)⟩
    · intro a W hf hin hst
      have g50 := ev_get (show a.eval (.tmp 50) = Value.string XE from hin 22 50 (by decide +kernel) (by decide +kernel))
      have g55 := ev_get (show a.eval (.tmp 55) = Value.string G from hin 27 55 (by decide +kernel) (by decide +kernel))
      refine .inl ⟨Value.string XG, W, ?_, .refl _, rfl⟩
      simp [execOp, g50, g55, go_sem, a6]
    · intro a W hf hin hst
      have g56 := ev_get (show a.eval (.tmp 56) = Value.string XG from hin 28 56 (by decide +kernel) (by decide +kernel))
      refine .inl ⟨Value.string XG, W, ?_, .refl _, rfl⟩
      simp [execOp, g56, go_sem]
    intro a W ha hf hr
    refine hKK a W ?_
    generalize hA0 : Act.mk _ _ = A0 at ha
    have ha2 : a = ((((((((((((((((((((((((((((((A0.put (some 28) (a.eval (.tmp 28))).put (some 29) (a.eval (.tmp 29))).put (some 30) (a.eval (.tmp 30))).put (some 31) (a.eval (.tmp 31))).put (some 32) (a.eval (.tmp 32))).put (some 33) (a.eval (.tmp 33))).put (some 34) (a.eval (.tmp 34))).put (some 35) (a.eval (.tmp 35))).put (some 36) (a.eval (.tmp 36))).put (some 37) (a.eval (.tmp 37))).put (some 38) (a.eval (.tmp 38))).put (some 39) (a.eval (.tmp 39))).put (some 40) (a.eval (.tmp 40))).put (some 41) (a.eval (.tmp 41))).put (some 42) (a.eval (.tmp 42))).put (some 43) (a.eval (.tmp 43))).put (some 44) (a.eval (.tmp 44))).put (some 45) (a.eval (.tmp 45))).put (some 46) (a.eval (.tmp 46))).put (some 47) (a.eval (.tmp 47))).put (some 48) (a.eval (.tmp 48))).put (some 49) (a.eval (.tmp 49))).put (some 50) (a.eval (.tmp 50))).put (some 51) (a.eval (.tmp 51))).put (some 52) (a.eval (.tmp 52))).put (some 53) (a.eval (.tmp 53))).put (some 54) (a.eval (.tmp 54))).put (some 55) (a.eval (.tmp 55))).put (some 56) (a.eval (.tmp 56))).put (some 3) (a.eval (.tmp 3))) := ha
    have HK := Lib.hid (HK.out.trans hf)
    rw [show a.eval (.tmp 3) = Value.string XG from hr 29 3 (by decide +kernel)] at ha2
    clear ha hr hf hKK
    generalize a.eval (.tmp 28) = v28 at ha2
    generalize a.eval (.tmp 29) = v29 at ha2
    generalize a.eval (.tmp 30) = v30 at ha2
    generalize a.eval (.tmp 31) = v31 at ha2
    generalize a.eval (.tmp 32) = v32 at ha2
    generalize a.eval (.tmp 33) = v33 at ha2
    generalize a.eval (.tmp 34) = v34 at ha2
    generalize a.eval (.tmp 35) = v35 at ha2
    generalize a.eval (.tmp 36) = v36 at ha2
    generalize a.eval (.tmp 37) = v37 at ha2
    generalize a.eval (.tmp 38) = v38 at ha2
    generalize a.eval (.tmp 39) = v39 at ha2
    generalize a.eval (.tmp 40) = v40 at ha2
    generalize a.eval (.tmp 41) = v41 at ha2
    generalize a.eval (.tmp 42) = v42 at ha2
    generalize a.eval (.tmp 43) = v43 at ha2
    generalize a.eval (.tmp 44) = v44 at ha2
    generalize a.eval (.tmp 45) = v45 at ha2
    generalize a.eval (.tmp 46) = v46 at ha2
    generalize a.eval (.tmp 47) = v47 at ha2
    generalize a.eval (.tmp 48) = v48 at ha2
    generalize a.eval (.tmp 49) = v49 at ha2
    generalize a.eval (.tmp 50) = v50 at ha2
    generalize a.eval (.tmp 51) = v51 at ha2
    generalize a.eval (.tmp 52) = v52 at ha2
    generalize a.eval (.tmp 53) = v53 at ha2
    generalize a.eval (.tmp 54) = v54 at ha2
    generalize a.eval (.tmp 55) = v55 at ha2
    generalize a.eval (.tmp 56) = v56 at ha2
    subst ha2 hA0
    simp only [Act.put, List.setIfInBounds_toArray, List.set_cons_zero, List.set_cons_succ]
    have HIN := Lib.hid (HIN.out.move HF1.out)
    have HG : Hid (XG = XG ++ tx ((cs.take 0).flatMap cL)) := by
      rw [Hid]; apply list_ext; rw [app_list, List.take_zero, List.flatMap_nil, tx_toList, List.append_nil]
    clear k0 k1 k2 k3 k4 k5 a1 a2 a3 a4 a5 a6 hcv H1 H2 H3 H5 H6
    go_wp2
    go_loopw [3, 6] (fun a3 a6 wv => ∃ (j : Nat), a6 = .int .i64 (j : Int) ∧ a3 = .string (XG ++ tx ((cs.take j).flatMap cL)) ∧ j ≤ cs.length ∧ Hid (Fresh V1 wv)) (fun _ a6 _ => cs.length - (intOf a6).toNat)
    case atStart => exact ⟨0, rfl, by rw [← HG.out], Nat.zero_le _, HK.out⟩
    case round =>
    clear HK HG
    obtain ⟨j, rfl, rfl, hj, HFJ⟩ := hrel
    obtain ⟨k0, k1, k2, k3, k4, k5⟩ := HKQ.out _ HFJ.out
    by_cases hjlt : j < cs.length
    case pos =>
      obtain ⟨gc, oc, rfl, hcc⟩ := c2_form (HIN.out.move HFJ.out) hjlt
      obtain ⟨l0, l1⟩ := hcc j hjlt
      obtain ⟨hx1, hx2⟩ := HFC.out _ (List.getElem_mem hjlt)
      have HTJ : Hid (XG ++ tx ((cs.take (j + 1)).flatMap cL) = (XG ++ tx ((cs.take j).flatMap cL)) ++ tx (cL cs[j])) := by
        rw [Hid, List.take_succ_eq_append_getElem hjlt, List.flatMap_append]
        apply list_ext
        simp [app_list, tx_toList]
      have hY : (XG ++ tx ((cs.take j).flatMap cL)).size ≤ 10020000 := by
        have h1 := flat_le cL 514 (cs.take j) (fun c hc => cL_len (HFC.out c (List.mem_of_mem_take hc)))
        have h3 : (cs.take j).length * 514 ≤ 16 * 514 := Nat.mul_le_mul (by rw [List.length_take]; omega) (Nat.le_refl _)
        rw [ByteArray.size_append, tx_size]
        omega
      have hgl : gc < wr.heap.size := World.block_lt_of_cell? wr _ l0
      clear hcc
      generalize XG ++ tx ((cs.take j).flatMap cL) = Y at *
      obtain ⟨Y', hY'⟩ : ∃ Y', Y' = XG ++ tx ((cs.take (j + 1)).flatMap cL) := ⟨_, rfl⟩
      rw [← hY'] at HTJ
      have HY' := Lib.hid hY'
      clear hY'
      generalize cs[j] = x at *
      obtain ⟨x1, x2⟩ := x
      dsimp only at hx1 hx2 l0 l1
      have J1 := Lib.hid (fun W => rtext_tx x1 W (Nat.le_trans hx1 (by decide)))
      have J2 := Lib.hid (fun W => rtext_tx x2 W (Nat.le_trans hx2 (by decide)))
      have u1 : (tx (txtL x1)).size ≤ 300 := by rw [tx_size, txtL_len]; omega
      have u2 : (tx (txtL x2)).size ≤ 300 := by rw [tx_size, txtL_len]; omega
      have HTJ : Hid (Y ++ tx (txtL x1) ++ tx (txtL x2) = Y') := by
        rw [Hid, HTJ.out]; apply list_ext; simp only [app_list, tx_toList, cL, List.append_assoc]
      generalize tx (txtL x1) = A1 at *
      generalize tx (txtL x2) = A2 at *
      have s1 : (Y ++ A1).size ≤ 10030000 := by rw [ByteArray.size_append]; omega
      have a1 := add_run Y A1 _ (by omega) rfl
      have a2 := add_run (Y ++ A1) A2 _ (by omega) HTJ.out
      generalize Y ++ A1 = Y1 at *
      clear HTJ
      have HKS : Hid (∀ W, Fresh wr W → (W.cell? ⟨y, 5, none⟩ = some (.slice (some ⟨gc, oc, none⟩) cs.length cc)) ∧ W.cell? ⟨gc, oc + j * 2, none⟩ = some (.string x1) ∧ W.cell? ⟨gc, oc + j * 2 + 1, none⟩ = some (.string x2)) := fun W f =>
        ⟨f.cell k5, f.cell l0, f.cell l1⟩
      have i1 : (0 : Int) ≤ (j : Int) := by omega
      have i2 : (j : Int) < (cs.length : Int) := by omega
      have HK2 : Hid (Fresh wr wr.drew) := (Fresh.refl wr).drew
      go_wp2_with (fail)
      all_goals try (exfalso; omega)
      go_region_held3 (fun w' => ((w'.cell? ⟨y, 5, none⟩ = some (.slice (some ⟨gc, oc, none⟩) cs.length cc)) ∧ w'.cell? ⟨gc, oc + j * 2, none⟩ = some (.string x1) ∧ w'.cell? ⟨gc, oc + j * 2 + 1, none⟩ = some (.string x2))) (go_keep)
        (first
          | (go_at_call 43; (with_reducible refine (J1.out _).mono ?_); rintro e W6 ⟨rfl, hf⟩; have HK2 := Lib.hid (HK2.out.trans hf); obtain ⟨k5, l0, l1⟩ := HKS.out _ HK2.out; clear hf)
          | (go_at_call 43; (with_reducible refine (J2.out _).mono ?_); rintro e W6 ⟨rfl, hf⟩; have HK2 := Lib.hid (HK2.out.trans hf); obtain ⟨k5, l0, l1⟩ := HKS.out _ HK2.out; clear hf))
      go_wp2
      go_roundw
      case rel => exact ⟨j + 1, by simp, by rw [HY'.out], by omega, HFJ.out.trans HK2.out⟩
      case measure => simp [intOf]; omega
    case neg =>
      obtain rfl : j = cs.length := by omega
      have HN : Hid (XG ++ tx ((cs.take cs.length).flatMap cL) = X') := by rw [Hid, HXX.out, List.take_length]
      go_wp2
      all_goals try (exfalso; omega)
      go_roundw
      case rel => exact ⟨k + 1, by simp, by rw [HN.out, HX'.out], by omega, (HF.out.trans HF1.out).trans HFJ.out⟩
      case measure => simp [intOf]; omega
  case neg =>
    obtain rfl : k = l.length := by omega
    have HR : Hid (be 8 seq.toNat ++ (be 2 l.length ++ ((pods2 l).take l.length).flatMap pod2L) = enc2L seq (pods2 l)) := by rw [Hid, HENC.out, List.take_of_length_le (by omega)]
    go_wp2
    all_goals try (exfalso; omega)
    go_ret
    exact ⟨by rw [HR.out]; rfl, HF0.out.trans HF.out⟩
end Go.Proofs.Ytphjhlnjfcfdcaa
namespace Go.Proofs.Ytphjhlnjfcfdcaa
open Go.ChangeShapes Go.WideShapes Go.ChangeAt Go.RowKit
set_option maxRecDepth 100000

set_option maxHeartbeats 4000000 in
theorem eqCont_any (xs ys : List C2) (a a' : Option Addr) (cap cap' : Nat) (w : World) (ha : RowAt w a (c2s xs)) (ha' : RowAt w a' (c2s ys)) (hl : xs.length ≤ 4000000) :
    Calls Try.prog 79 #[.slice a xs.length cap, .slice a' ys.length cap'] w fun e w' => e = .returned (.bool (eqC xs ys)) ∧ Fresh w w' := by
  have HIN := Lib.hid ha
  have HIN' := Lib.hid ha'
  clear ha ha'
  obtain ⟨R, hR⟩ : ∃ R, R = eqC xs ys := ⟨_, rfl⟩
  rw [← hR]
  have HR0 := Lib.hid hR
  clear hR
  by_cases hlen : xs.length = ys.length
  case neg =>
    have HR : Hid (R = false) := by rw [Hid, HR0.out, eqC_len _ _ hlen]
    have e0 : ((xs.length : Int) == (ys.length : Int)) = false := by rw [beq_eq_false_iff_ne]; omega
    go_enter Try.func79, Try.ntmps79
    go_wp2
    all_goals try (exfalso; omega)
    go_ret
    exact ⟨ret_bool HR.out.symm, Fresh.refl _⟩
  have HN2 : Hid (ys.length = xs.length) := hlen.symm
  have hd2 := HN2.out
  rw [hd2]
  clear hd2 hlen
  generalize hn : xs.length = xl at *
  have HXL := Lib.hid hn
  clear hn
  go_enter Try.func79, Try.ntmps79
  go_wp2
  all_goals try (exfalso; omega)
  go_loopw [13] (fun a13 wr => ∃ (j : Nat), a13 = .int .i64 (j : Int) ∧ j ≤ xl ∧ Hid (R = eqC (xs.drop j) (ys.drop j)) ∧ Hid (Fresh w wr)) (fun a13 _ => xl - (intOf a13).toNat)
  case atStart => exact ⟨0, rfl, Nat.zero_le _, HR0.out, Fresh.refl _⟩
  case round =>
  obtain ⟨j, rfl, hj, HEJ, HF2⟩ := hrel
  by_cases hjlt : j < xl
  case pos =>
    have hj1 : j < xs.length := by rw [HXL.out]; exact hjlt
    have hj2 : j < ys.length := by rw [HN2.out]; exact hjlt
    obtain ⟨gc, oc, rfl, hcc⟩ := c2_form (HIN.out.move HF2.out) hj1
    obtain ⟨gd, od, rfl, hcd⟩ := c2_form (HIN'.out.move HF2.out) hj2
    obtain ⟨l0, l1⟩ := hcc j hj1
    obtain ⟨r0, r1⟩ := hcd j hj2
    have HS3 : Hid (R = (C2.eqB xs[j] ys[j] && eqC (xs.drop (j + 1)) (ys.drop (j + 1)))) := by rw [Hid, HEJ.out, eqC_drop hj1 hj2]
    clear hcc hcd HEJ
    generalize xs[j] = cx at *
    generalize ys[j] = cy at *
    clear hj1 hj2
    obtain ⟨e1, e2⟩ := cx
    obtain ⟨f1, f2⟩ := cy
    have HS3 : Hid (R = ((decide (e1 = f1) && decide (e2 = f2)) && eqC (xs.drop (j + 1)) (ys.drop (j + 1)))) := HS3.out
    dsimp only at *
    have i1 : (0 : Int) ≤ (j : Int) := by omega
    have i2 : (j : Int) < (xl : Int) := by omega
    by_cases h1 : e1 = f1
    case neg =>
      have HR : Hid (R = false) := by rw [Hid, HS3.out, decide_eq_false h1]; rfl
      have e1 := tl_ne h1
      clear HS3 h1
      go_wp2_with (fail)
      all_goals try (exfalso; omega)
      go_quiet (fail)
      go_wp2
      all_goals try (exfalso; omega)
      go_ret
      exact ⟨ret_bool HR.out.symm, HF2.out.trans (fresh_drewN _ _)⟩
    subst h1
    by_cases h2 : e2 = f2
    case neg =>
      have HR : Hid (R = false) := by rw [Hid, HS3.out, decide_eq_false h2]; simp
      have e1 := tl_ne h2
      clear HS3 h2
      go_wp2_with (fail)
      all_goals try (exfalso; omega)
      go_quiet (fail)
      go_wp2
      all_goals try (exfalso; omega)
      go_ret
      exact ⟨ret_bool HR.out.symm, HF2.out.trans (fresh_drewN _ _)⟩
    subst h2
    have HN : Hid (R = eqC (xs.drop (j + 1)) (ys.drop (j + 1))) := by rw [Hid, HS3.out]; simp
    clear HS3
    go_wp2_with (fail)
    all_goals try (exfalso; omega)
    go_quiet (fail)
    go_wp2
    all_goals try (exfalso; omega)
    go_roundw
    case rel => exact ⟨j + 1, by simp, by omega, HN.out, HF2.out.trans (fresh_drewN _ _)⟩
    case measure => simp [intOf]; omega
  case neg =>
    obtain rfl : j = xl := by omega
    have HR : Hid (R = true) := by rw [Hid, HEJ.out, List.drop_of_length_le (by rw [HXL.out]; exact Nat.le_refl _), List.drop_of_length_le (by rw [HN2.out]; exact Nat.le_refl _)]; rfl
    go_wp2
    all_goals try (exfalso; omega)
    go_ret
    exact ⟨ret_bool HR.out.symm, HF2.out⟩
set_option maxHeartbeats 4000000 in
theorem podSame_any (p q : M2) (w : World) (hp : p.In w) (hq : q.In w) (hl : p.p.cs.length ≤ 4000000) : Calls Try.prog 57 #[p.val, q.val] w fun e w' => e = .returned (.bool (P2.eqB p.p q.p)) ∧ Fresh w w' := by
  obtain ⟨⟨x0, x1, x2, x3, x4, xs⟩, xa, xc⟩ := p
  obtain ⟨⟨y0, y1, y2, y3, y4, ys⟩, ya, yc⟩ := q
  have HP : Hid (RowAt w xa (c2s xs)) := hp.1
  have HQ : Hid (RowAt w ya (c2s ys)) := hq.1
  have HE : Hid (P2.eqB ⟨x0, x1, x2, x3, x4, xs⟩ ⟨y0, y1, y2, y3, y4, ys⟩ = (decide (x0 = y0) && (decide (x1 = y1) && (decide (x2 = y2) && (decide (x3 = y3) && (decide (x4 = y4) && eqC xs ys)))))) := rfl
  have HF := Lib.hid (((Fresh.refl w).alloc (.cells #[.string x0, .string x1, .string x2, .int .u8 x3, .int .u16 x4, .slice xa xs.length xc] 98)).alloc (.cells #[.string y0, .string y1, .string y2, .int .u8 y3, .int .u16 y4, .slice ya ys.length yc] 98))
  have HEC := Lib.hid (eqCont_any xs ys xa ya xc yc _ (HP.out.move HF.out) (HQ.out.move HF.out) hl)
  dsimp only [M2.val] at *
  clear hp hq HP HQ
  generalize P2.eqB ⟨x0, x1, x2, x3, x4, xs⟩ ⟨y0, y1, y2, y3, y4, ys⟩ = E at *
  generalize eqC xs ys = SC at *
  by_cases h1 : x0 = y0
  case neg =>
    have HR : Hid (E = false) := by rw [Hid, HE.out, decide_eq_false h1]; rfl
    have e1 := tl_ne h1
    clear HE h1 HEC
    go_enter Try.func57, Try.ntmps57
    go_wp2
    go_ret
    exact ⟨ret_bool HR.out.symm, HF.out⟩
  subst h1
  by_cases h2 : x1 = y1
  case neg =>
    have HR : Hid (E = false) := by rw [Hid, HE.out, decide_eq_false h2]; simp
    have e1 := tl_ne h2
    clear HE h2 HEC
    go_enter Try.func57, Try.ntmps57
    go_wp2
    go_ret
    exact ⟨ret_bool HR.out.symm, HF.out⟩
  subst h2
  by_cases h3 : x2 = y2
  case neg =>
    have HR : Hid (E = false) := by rw [Hid, HE.out, decide_eq_false h3]; simp
    have e1 := tl_ne h3
    clear HE h3 HEC
    go_enter Try.func57, Try.ntmps57
    go_wp2
    go_ret
    exact ⟨ret_bool HR.out.symm, HF.out⟩
  subst h3
  by_cases h4 : x3 = y3
  case neg =>
    have HR : Hid (E = false) := by rw [Hid, HE.out, decide_eq_false h4]; simp
    have e1 : (x3 == y3) = false := by rw [beq_eq_false_iff_ne]; exact h4
    clear HE h4 HEC
    go_enter Try.func57, Try.ntmps57
    go_wp2
    go_ret
    exact ⟨ret_bool HR.out.symm, HF.out⟩
  subst h4
  by_cases h5 : x4 = y4
  case neg =>
    have HR : Hid (E = false) := by rw [Hid, HE.out, decide_eq_false h5]; simp
    have e1 : (x4 == y4) = false := by rw [beq_eq_false_iff_ne]; exact h5
    clear HE h5 HEC
    go_enter Try.func57, Try.ntmps57
    go_wp2
    go_ret
    exact ⟨ret_bool HR.out.symm, HF.out⟩
  subst h5
  have HR : Hid (E = SC) := by rw [Hid, HE.out]; simp
  clear HE
  go_enter Try.func57, Try.ntmps57
  go_wp2_with (fail)
  refine HEC.out.mono ?_
  rintro e W1 ⟨rfl, hf⟩
  have hf := Lib.hid (HF.out.trans hf)
  go_wp2
  go_ret
  exact ⟨ret_bool HR.out.symm, hf.out⟩
set_option maxHeartbeats 4000000 in
theorem eqFunc2_any (l m : List M2) (a a' : Option Addr) (cap cap' : Nat) (w : World) (ha : Row2 w a l) (ha' : Row2 w a' m) (hl : l.length ≤ 4000000) (hcl : ∀ x ∈ l, x.p.cs.length ≤ 4000000) :
    Calls Try.prog 56 #[.slice a l.length cap, .slice a' m.length cap', .func (.func 57) #[] #[]] w fun e w' => e = .returned (.bool (eqP (pods2 l) (pods2 m))) ∧ Fresh w w' := by
  have HROW := Lib.hid ha
  have HROW' := Lib.hid ha'
  have HCL := Lib.hid hcl
  clear ha ha' hcl
  obtain ⟨R, hR⟩ : ∃ R, R = eqP (pods2 l) (pods2 m) := ⟨_, rfl⟩
  rw [← hR]
  have HR0 := Lib.hid hR
  have HPL : Hid ((pods2 l).length = l.length ∧ (pods2 m).length = m.length) := by simp [Hid, pods2]
  clear hR
  by_cases hlen : l.length = m.length
  case neg =>
    have HR : Hid (R = false) := by rw [Hid, HR0.out, eqP_len _ _ (by rw [HPL.out.1, HPL.out.2]; exact hlen)]
    have e0 : ((l.length : Int) == (m.length : Int)) = false := by rw [beq_eq_false_iff_ne]; omega
    go_enter Try.func56, Try.ntmps56
    go_wp2
    all_goals try (exfalso; omega)
    go_ret
    exact ⟨ret_bool HR.out.symm, Fresh.refl _⟩
  have HN2 : Hid (m.length = l.length) := hlen.symm
  have hd2 := HN2.out
  rw [hd2] at HPL ⊢
  clear hd2 hlen
  generalize hn : l.length = n at *
  have HNN := Lib.hid hn
  clear hn
  go_enter Try.func56, Try.ntmps56
  go_wp2
  all_goals try (exfalso; omega)
  go_loopw [17] (fun a17 wr => ∃ (k : Nat), a17 = .int .i64 (k : Int) ∧ k ≤ n ∧ Hid (R = eqP ((pods2 l).drop k) ((pods2 m).drop k)) ∧ Hid (Fresh w wr)) (fun a17 _ => n - (intOf a17).toNat)
  case atStart => exact ⟨0, rfl, Nat.zero_le _, HR0.out, Fresh.refl _⟩
  case round =>
  obtain ⟨k, rfl, hk, HE, HF⟩ := hrel
  by_cases hltn : k < n
  case pos =>
    have hlt : k < l.length := by rw [HNN.out]; exact hltn
    have hlt' : k < m.length := by rw [HN2.out]; exact hltn
    have hR := HROW.out.move HF.out
    have hR' := HROW'.out.move HF.out
    obtain ⟨g, o1, rfl, hc⟩ := m2_form hR.row hlt
    obtain ⟨g', o1', rfl, hc'⟩ := m2_form hR'.row hlt'
    obtain ⟨c0, c1, c2, c3, c4, c5⟩ := hc k hlt
    obtain ⟨v0, v1, v2, v3, v4, v5⟩ := hc' k hlt'
    have HIN := Lib.hid (hR.ins _ (List.getElem_mem hlt))
    have HIN' := Lib.hid (hR'.ins _ (List.getElem_mem hlt'))
    have HNL := Lib.hid (HCL.out _ (List.getElem_mem hlt))
    have hkp : k < (pods2 l).length := by rw [HPL.out.1]; exact hltn
    have hkp' : k < (pods2 m).length := by rw [HPL.out.2]; exact hltn
    have hpk : (pods2 l)[k] = l[k].p := by simp [pods2]
    have hpk' : (pods2 m)[k] = m[k].p := by simp [pods2]
    have HST : Hid (R = (P2.eqB l[k].p m[k].p && eqP ((pods2 l).drop (k + 1)) ((pods2 m).drop (k + 1)))) := by
      have := HE.out.trans (eqP_drop hkp hkp')
      rw [hpk, hpk'] at this; exact this
    have HCALL := Lib.hid (fun W (f : Fresh wr W) => podSame_any l[k] m[k] W (HIN.out.move f) (HIN'.out.move f) HNL.out)
    have lt1 : g' < wr.heap.size := World.block_lt_of_cell? wr _ v0
    clear hc hc' hR hR' hkp hkp' hpk hpk' HE HIN HIN' HNL
    generalize P2.eqB l[k].p m[k].p = SC at *
    generalize l[k] = p at *
    generalize m[k] = q at *
    clear hlt hlt'
    obtain ⟨⟨x0, x1, x2, x3, x4, xs⟩, xa, xc⟩ := p
    obtain ⟨⟨y0, y1, y2, y3, y4, ys⟩, ya, yc⟩ := q
    dsimp only [M2.val] at *
    have i1 : (0 : Int) ≤ (k : Int) := by omega
    have i2 : (k : Int) < (n : Int) := by omega
    have HFA := Lib.hid (((Fresh.refl wr).alloc (.cells #[.string x0, .string x1, .string x2, .int .u8 x3, .int .u16 x4, .slice xa xs.length xc] 98)).alloc (.cells #[.string y0, .string y1, .string y2, .int .u8 y3, .int .u16 y4, .slice ya ys.length yc] 98))
    have HC2 := Lib.hid (HCALL.out _ HFA.out)
    clear HCALL
    cases SC with
    | false =>
      have HR : Hid (R = false) := by rw [Hid, HST.out]; rfl
      clear HST
      go_wp2_with (fail)
      all_goals try (exfalso; omega)
      refine HC2.out.mono ?_
      rintro e W1 ⟨rfl, hf⟩
      have HF2 := Lib.hid ((HF.out.trans HFA.out).trans hf)
      clear hf
      go_wp2
      all_goals try (exfalso; omega)
      go_ret
      exact ⟨ret_bool HR.out.symm, HF2.out⟩
    | true =>
      have HN : Hid (R = eqP ((pods2 l).drop (k + 1)) ((pods2 m).drop (k + 1))) := by rw [Hid, HST.out]; rfl
      clear HST
      go_wp2_with (fail)
      all_goals try (exfalso; omega)
      refine HC2.out.mono ?_
      rintro e W1 ⟨rfl, hf⟩
      have HF2 := Lib.hid ((HF.out.trans HFA.out).trans hf)
      clear hf
      go_wp2
      all_goals try (exfalso; omega)
      go_roundw
      case rel => exact ⟨k + 1, by simp, by omega, HN.out, HF2.out⟩
      case measure => simp [intOf]; omega
  case neg =>
    obtain rfl : k = n := by omega
    have HR : Hid (R = true) := by rw [Hid, HE.out, List.drop_of_length_le (by rw [HPL.out.1]; exact Nat.le_refl _), List.drop_of_length_le (by rw [HPL.out.2]; exact Nat.le_refl _)]; rfl
    go_wp2
    all_goals try (exfalso; omega)
    go_ret
    exact ⟨ret_bool HR.out.symm, HF.out⟩
set_option maxHeartbeats 4000000 in
theorem csame2_any (s t : Int) (l m : List M2) (a a' : Option Addr) (cap cap' : Nat) (w : World) (ha : Row2 w a l) (ha' : Row2 w a' m) (hl : l.length ≤ 4000000) (hcl : ∀ x ∈ l, x.p.cs.length ≤ 4000000) :
    Calls Try.prog 29 #[st2 s a l.length cap, st2 t a' m.length cap'] w fun e w' => e = .returned (.bool (same2 s t (pods2 l) (pods2 m))) ∧ Fresh w w' := by
  have HE : Hid (same2 s t (pods2 l) (pods2 m) = (decide (s = t) && eqP (pods2 l) (pods2 m))) := rfl
  have HX := Lib.hid (two_boxes w (.cells #[.int .u64 s, .slice a l.length cap] 49) (.cells #[.int .u64 t, .slice a' m.length cap'] 49))
  have HEF := Lib.hid (eqFunc2_any l m a a' cap cap' _ (ha.move HX.out.2.2.1) (ha'.move HX.out.2.2.1) hl hcl)
  have HF := Lib.hid HX.out.2.2.1
  clear HX ha ha' hl hcl
  dsimp only [st2]
  generalize same2 s t (pods2 l) (pods2 m) = R at *
  generalize eqP (pods2 l) (pods2 m) = SL at *
  by_cases hs : s = t
  case neg =>
    have HR : Hid (R = false) := by rw [Hid, HE.out, decide_eq_false hs]; rfl
    have e0 : (s == t) = false := by rw [beq_eq_false_iff_ne]; exact hs
    clear HEF HE
    go_enter Try.func29, Try.ntmps29
    go_wp2
    go_ret
    exact ⟨ret_bool HR.out.symm, HF.out⟩
  subst hs
  have HR : Hid (R = SL) := by rw [Hid, HE.out]; simp
  clear HE
  go_enter Try.func29, Try.ntmps29
  go_wp2_with (fail)
  refine HEF.out.mono ?_
  rintro e W1 ⟨rfl, hf⟩
  have hf := Lib.hid (HF.out.trans hf)
  go_wp2
  go_ret
  exact ⟨ret_bool HR.out.symm, hf.out⟩
end Go.Proofs.Ytphjhlnjfcfdcaa
namespace Go.Proofs.Ytphjhlnjfcfdcaa
open Go.ChangeShapes Go.WideShapes Go.ChangeAt Go.RowKit
set_option maxRecDepth 100000

/-- What the region leaves, as puts. -/
theorem Res2.act {A0 : Act} {w0 : World} {p q : SM2} {b c : Nat} {a : Act} {W : World} {m n : SM2} {zx zy : Nat} (h : Res2 A0 w0 p q b c a W m n zx zy) (hs : A0.tmps.size = 72) (hd : A0.defers = []) :
    a = (((((A0.put (some 19) p.val).put (some 20) m.val).put (some 21) q.val).put (some 22) n.val).put (some 5) (.pointer (some ⟨zx, 0, none⟩))).put (some 6) (.pointer (some ⟨zy, 0, none⟩)) := by
  refine act_ext (by rw [h.fs]; simp only [put_size]; exact hs.symm) (by rw [h.fd]; simp only [put_defers]; exact hd.symm) (fun t => ?_)
  by_cases e5 : t = 6
  · subst e5; rw [h.eb1, ev_same (by simp only [put_size]; omega)]
  rw [ev_ne (fun e => e5 e.symm)]
  by_cases e4 : t = 5
  · subst e4; rw [h.eb0, ev_same (by simp only [put_size]; omega)]
  rw [ev_ne (fun e => e4 e.symm)]
  by_cases e3 : t = 22
  · subst e3; rw [h.es3, ev_same (by simp only [put_size]; omega)]
  rw [ev_ne (fun e => e3 e.symm)]
  by_cases e2 : t = 21
  · subst e2; rw [h.es2, ev_same (by simp only [put_size]; omega)]
  rw [ev_ne (fun e => e2 e.symm)]
  by_cases e1 : t = 20
  · subst e1; rw [h.es1, ev_same (by simp only [put_size]; omega)]
  rw [ev_ne (fun e => e1 e.symm)]
  by_cases e0 : t = 19
  · subst e0; rw [h.es0, ev_same (by omega)]
  rw [ev_ne (fun e => e0 e.symm)]
  exact h.sm t e0 e1 e2 e3 e4 e5
theorem rcheck2_at (seq : Int) (a : Option Addr) (L : List P2) (c : Nat) (w : World) (h : AtL L w a) (hf : ∀ p ∈ L, p.Fit 20000) (hl : L.length ≤ 4000000) :
    Calls Try.prog 25 #[st2 seq a L.length c] w fun e w' => e = .returned (.int .i64 (chk2 L)) ∧ Fresh w w' := by
  obtain ⟨D, rfl, hr⟩ := h
  rw [pods2_length] at hl ⊢
  exact rcheck2_any seq a D c w hr (fun m hm => hf _ (pods2_mem hm)) hl
theorem check2_at (seq : Int) (a : Option Addr) (L : List P2) (c : Nat) (w : World) (h : AtL L w a) (hf : ∀ p ∈ L, p.Fit maxLen) :
    Calls Try.prog 27 #[st2 seq a L.length c] w fun e w' => e = .returned (.int .i64 (chk2 L)) ∧ Fresh w w' := by
  obtain ⟨D, rfl, hr⟩ := h
  rw [pods2_length]
  exact check2_any seq a D c w hr (fun m hm => hf _ (pods2_mem hm))
theorem rbytes2_at (seq : Int) (a : Option Addr) (L : List P2) (c : Nat) (w : World) (h : AtL L w a) (hf : ∀ p ∈ L, p.Fit 255 ∧ p.cs.length ≤ 16) (hl : L.length ≤ 1024) (hs0 : 0 ≤ seq) (hs1 : seq ≤ 18446744073709551615) :
    Calls Try.prog 28 #[st2 seq a L.length c] w fun e w' => e = .returned (.string (tx (enc2L seq L))) ∧ Fresh w w' := by
  obtain ⟨D, rfl, hr⟩ := h
  rw [pods2_length] at hl ⊢
  exact rbytes2_any seq a D c w hr hf hl hs0 hs1
theorem csame2_at (s t : Int) (L M : List P2) (a a' : Option Addr) (c c' : Nat) (w : World) (h : AtL L w a) (h' : AtL M w a') (hl : L.length ≤ 4000000) (hcl : ∀ p ∈ L, p.cs.length ≤ 4000000) :
    Calls Try.prog 29 #[st2 s a L.length c, st2 t a' M.length c'] w fun e w' => e = .returned (.bool (same2 s t L M)) ∧ Fresh w w' := by
  obtain ⟨D, rfl, hr⟩ := h
  obtain ⟨E, rfl, hr'⟩ := h'
  rw [pods2_length] at hl ⊢
  rw [pods2_length]
  exact csame2_any s t D E a a' c c' w hr hr' hl (fun m hm => hcl _ (pods2_mem hm))
theorem csW_le (K : Nat) : ∀ (l : List C2), (∀ c ∈ l, c.name.size ≤ K ∧ c.image.size ≤ K) → csW l ≤ l.length * (1 + 2 * K)
  | [], _ => by simp [csW]
  | c :: l, h => by
    have e : csW (c :: l) = c.w + csW l := by simp [csW]
    have h1 := h c List.mem_cons_self
    have h2 := csW_le K l (fun d hd => h d (List.mem_cons_of_mem _ hd))
    have hw : c.w = 1 + c.name.size + c.image.size := rfl
    rw [e, List.length_cons, Nat.add_mul]
    omega
theorem smB_fit {L : List P2} (h : ∀ x ∈ L, x.Fit 1048576 ∧ x.cs.length ≤ 1048576) (hs : smB 0 L = true) : L.length ≤ 20000 ∧ ∀ x ∈ L, x.Fit 20000 ∧ x.cs.length ≤ 20000 := by
  obtain ⟨h1, h2⟩ := smB_short L 0 (by omega) (fun p hp => by
    obtain ⟨hf, hl⟩ := h p hp
    have h3 := csW_le 1048576 p.cs hf.cs
    have h4 : p.cs.length * (1 + 2 * 1048576) ≤ 1048576 * (1 + 2 * 1048576) := Nat.mul_le_mul hl (Nat.le_refl _)
    have hw : p.w = 1 + p.file.size + p.name.size + p.ns.size := rfl
    have := hf.file
    have := hf.name
    have := hf.ns
    omega) hs
  refine ⟨by omega, fun x hx => ?_⟩
  have h3 := h2 x hx
  have h4 := (h x hx).1
  exact ⟨⟨h3.file, h3.name, h3.ns, h4.r0, h4.r1, h4.g0, h4.g1, h3.cs⟩, h3.len⟩
set_option maxHeartbeats 3000000 in
theorem codes2_any (p q : SM2) (w : World) (hp : AtL p.l w p.a) (hq : AtL q.l w q.a) (hfp : ∀ x ∈ p.l, x.Fit 1048576 ∧ x.cs.length ≤ 1048576) (hfq : ∀ x ∈ q.l, x.Fit 1048576 ∧ x.cs.length ≤ 1048576) (hlp : p.l.length ≤ 1048576) (hlq : q.l.length ≤ 1048576) (hs0 : 0 ≤ p.seq) (hs1 : p.seq ≤ 18446744073709551615) :
    Calls Try.prog 6 #[p.val, q.val] w fun e w' => e = .returned (.bool true) ∧ Fresh w w' := by
  have HAW := Lib.hid (fun W => awake18_any W)
  have HX := Lib.hid (two_boxes w (p.obj 49) (q.obj 49))
  have HF0 := Lib.hid HX.out.2.2.1
  have HP := Lib.hid hp
  have HQ := Lib.hid hq
  have HSM : Hid (∀ W, Fresh w W → Calls Try.prog 22 #[p.val] W fun e w' => e = .returned (.bool (smB 0 p.l)) ∧ Fresh W w') := fun W f => small2_at p.seq p.a p.l p.c W (hp.move f) (fun x hx => (hfp x hx).1.mono (by decide)) (Nat.le_trans hlp (by decide)) (fun x hx => Nat.le_trans (hfp x hx).2 (by decide))
  have HSM' : Hid (∀ W, Fresh w W → Calls Try.prog 22 #[q.val] W fun e w' => e = .returned (.bool (smB 0 q.l)) ∧ Fresh W w') := fun W f => small2_at q.seq q.a q.l q.c W (hq.move f) (fun x hx => (hfq x hx).1.mono (by decide)) (Nat.le_trans hlq (by decide)) (fun x hx => Nat.le_trans (hfq x hx).2 (by decide))
  have hp2 : smB 0 p.l = true → p.l.length ≤ 20000 ∧ ∀ x ∈ p.l, x.Fit 20000 ∧ x.cs.length ≤ 20000 := fun h => smB_fit hfp h
  have hq2 : smB 0 q.l = true → q.l.length ≤ 20000 ∧ ∀ x ∈ q.l, x.Fit 20000 ∧ x.cs.length ≤ 20000 := fun h => smB_fit hfq h
  clear hp hq hfp hfq hlp hlq
  cases hsp : smB 0 p.l with
  | false =>
    rw [hsp] at HSM
    clear hsp hp2 hq2 HSM'
    obtain ⟨s, a, l, c⟩ := p
    obtain ⟨s', a', l', c'⟩ := q
    dsimp only [SM2.val, SM2.obj] at *
    go_enter Try.func6, Try.ntmps6
    go_wp2_with (fail)
    refine (HSM.out _ HF0.out).mono ?_
    rintro e w1 ⟨rfl, hf⟩
    have HF1 := Lib.hid (HF0.out.trans hf)
    clear hf
    go_wp2_with (fail)
    refine (HAW.out _).mono ?_
    rintro e w2 ⟨rfl, hf⟩
    have HF2 := Lib.hid (HF1.out.trans hf)
    clear hf
    go_wp2
    go_ret
    exact ⟨rfl, HF2.out⟩
  | true =>
    rw [hsp] at HSM
    obtain ⟨hpl, hpf⟩ := hp2 hsp
    cases hsq : smB 0 q.l with
    | false =>
      rw [hsq] at HSM'
      clear hsp hsq hp2 hq2
      obtain ⟨s, a, l, c⟩ := p
      obtain ⟨s', a', l', c'⟩ := q
      dsimp only [SM2.val, SM2.obj] at *
      go_enter Try.func6, Try.ntmps6
      go_wp2_with (fail)
      refine (HSM.out _ HF0.out).mono ?_
      rintro e w1 ⟨rfl, hf⟩
      obtain ⟨q0, q1, _⟩ := st2_box (hf.at HX.out.2.1)
      have HF1 := Lib.hid (HF0.out.trans hf)
      clear hf
      go_wp2_with (fail)
      refine (HSM'.out _ HF1.out).mono ?_
      rintro e w2 ⟨rfl, hf⟩
      have HF2 := Lib.hid (HF1.out.trans hf)
      clear hf q0 q1
      go_wp2_with (fail)
      refine (HAW.out _).mono ?_
      rintro e w3 ⟨rfl, hf⟩
      have HF3 := Lib.hid (HF2.out.trans hf)
      clear hf
      go_wp2
      go_ret
      exact ⟨rfl, HF3.out⟩
    | true =>
      rw [hsq] at HSM'
      obtain ⟨hql, hqf⟩ := hq2 hsq
      clear hsp hsq hp2 hq2
      have HPF := Lib.hid hpf
      have HQF := Lib.hid hqf
      clear hpf hqf
      have HSP : Hid (∀ (m : SM2) W, m.seq = p.seq ∧ m.l = p.l → AtL m.l W m.a → Calls Try.prog 25 #[m.val] W fun e w' => e = .returned (.int .i64 (chk2 p.l)) ∧ Fresh W w') := fun m W h hr => by
        have := rcheck2_at m.seq m.a m.l m.c W hr (by rw [h.2]; exact fun x hx => (HPF.out x hx).1) (by rw [h.2]; omega)
        rw [h.2] at this
        have e : m.val = st2 m.seq m.a p.l.length m.c := by unfold SM2.val st2; rw [h.2]
        rw [e]; exact this
      have HCK : Hid (∀ W, Fresh w W → Calls Try.prog 27 #[p.val] W fun e w' => e = .returned (.int .i64 (chk2 p.l)) ∧ Fresh W w') := fun W f => check2_at p.seq p.a p.l p.c W (HP.out.move f) (fun x hx => (HPF.out x hx).1.mono (by unfold maxLen; omega))
      have HBY : Hid (chk2 p.l = 0 → ∀ (m : SM2) W, m.seq = p.seq ∧ m.l = p.l → AtL m.l W m.a → Calls Try.prog 28 #[m.val] W fun e w' => e = .returned (.string (tx (enc2L p.seq p.l))) ∧ Fresh W w') := fun h0 m W h hr => by
        obtain ⟨h1, h2⟩ := chk2_fit h0 (fun x hx => ⟨(HPF.out x hx).1.r0, (HPF.out x hx).1.r1, (HPF.out x hx).1.g0, (HPF.out x hx).1.g1⟩)
        have := rbytes2_at m.seq m.a m.l m.c W hr (by rw [h.2]; exact h2) (by rw [h.2]; exact h1) (by rw [h.1]; exact hs0) (by rw [h.1]; exact hs1)
        rw [h.1, h.2] at this
        have e : m.val = st2 p.seq m.a p.l.length m.c := by unfold SM2.val st2; rw [h.1, h.2]
        rw [e]; exact this
      have HEO : Hid (chk2 p.l = 0 → ∀ W, Fresh w W → Calls Try.prog 26 #[p.val] W fun e w' => e = .returned (.tuple #[.string (tx (enc2L p.seq p.l)), .int .i64 0]) ∧ Fresh W w') := fun h0 W f => encode2_at_ok p.seq p.a p.l p.c W (HP.out.move f) (fun x hx => (HPF.out x hx).1.mono (by unfold maxLen; omega)) h0 hs0 hs1
      have HEB : Hid (chk2 p.l ≠ 0 → ∀ W, Fresh w W → Calls Try.prog 26 #[p.val] W fun e w' => e = .returned (.tuple #[.string ⟨#[]⟩, .int .i64 (chk2 p.l)]) ∧ Fresh W w') := fun h0 W f => encode2_at_bad p.seq p.a p.l p.c W (HP.out.move f) (fun x hx => (HPF.out x hx).1.mono (by unfold maxLen; omega)) h0
      have HSS : Hid (∀ W, Fresh w W → Calls Try.prog 29 #[p.val, q.val] W fun e w' => e = .returned (.bool (same2 p.seq q.seq p.l q.l)) ∧ Fresh W w') := fun W f => csame2_at p.seq q.seq p.l q.l p.a q.a p.c q.c W (HP.out.move f) (HQ.out.move f) (by omega) (fun x hx => Nat.le_trans (HPF.out x hx).2 (by decide))
      have HS1 : Hid (∀ W, Fresh w W → Calls Try.prog 29 #[p.val, p.val] W fun e w' => e = .returned (.bool true) ∧ Fresh W w') := fun W f => by
        have := csame2_at p.seq p.seq p.l p.l p.a p.a p.c p.c W (HP.out.move f) (HP.out.move f) (by omega) (fun x hx => Nat.le_trans (HPF.out x hx).2 (by decide))
        rw [same2_self] at this
        exact this
      have HRS : Hid (∀ (m n : SM2) W, m.seq = p.seq ∧ m.l = p.l → n.seq = q.seq ∧ n.l = q.l → AtL m.l W m.a → AtL n.l W n.a → Calls Try.prog 30 #[m.val, n.val] W fun e w' => e = .returned (.bool (same2 p.seq q.seq p.l q.l)) ∧ Fresh W w') := fun m n W h h' hr hr' => by
        have := rsame2_at m.seq n.seq m.l n.l m.a n.a m.c n.c W hr hr' (by rw [h.2]; omega) (by rw [h.2]; exact fun x hx => Nat.le_trans (HPF.out x hx).2 (by decide))
        rw [show same2 m.seq n.seq m.l n.l = same2 p.seq q.seq p.l q.l from by rw [h.1, h.2, h'.1, h'.2]] at this
        exact this
      have HPA : Hid (p.At w) := ⟨HP.out, by omega, fun x hx => Nat.le_trans (HPF.out x hx).2 (by decide)⟩
      have HQA : Hid (q.At w) := ⟨HQ.out, by omega, fun x hx => Nat.le_trans (HQF.out x hx).2 (by decide)⟩
      generalize same2 p.seq q.seq p.l q.l = SB at *
      generalize tx (enc2L p.seq p.l) = X at *
      generalize chk2 p.l = K at *
      have hobj1 := HX.out.1
      have hobj2 := HX.out.2.1
      generalize hpv : p.val = pv at *
      generalize hqv : q.val = qv at *
      have hpv' : pv = .agg #[.int .u64 p.seq, .slice p.a p.l.length p.c] := hpv.symm
      have hqv' : qv = .agg #[.int .u64 q.seq, .slice q.a q.l.length q.c] := hqv.symm
      have HPV := Lib.hid hpv
      have HQV := Lib.hid hqv
      clear hpv hqv
      subst hpv' hqv'
      have X1 : Hid (((w.alloc (.cells #[.int .u64 p.seq, .slice p.a p.l.length p.c] 49)).alloc (.cells #[.int .u64 q.seq, .slice q.a q.l.length q.c] 49)).heap[w.heap.size]? = some (p.obj 49)) := hobj1
      have X2 : Hid (((w.alloc (.cells #[.int .u64 p.seq, .slice p.a p.l.length p.c] 49)).alloc (.cells #[.int .u64 q.seq, .slice q.a q.l.length q.c] 49)).heap[w.heap.size + 1]? = some (q.obj 49)) := hobj2
      have HF0 : Hid (Fresh w ((w.alloc (.cells #[.int .u64 p.seq, .slice p.a p.l.length p.c] 49)).alloc (.cells #[.int .u64 q.seq, .slice q.a q.l.length q.c] 49))) := HF0.out
      have HSZ : Hid (((w.alloc (.cells #[.int .u64 p.seq, .slice p.a p.l.length p.c] 49)).alloc (.cells #[.int .u64 q.seq, .slice q.a q.l.length q.c] 49)).heap.size = w.heap.size + 2) := HX.out.2.2.2
      clear HX hobj1 hobj2
      go_enter Try.func6, Try.ntmps6
      go_wp2_with (fail)
      generalize (w.alloc (.cells #[.int .u64 p.seq, .slice p.a p.l.length p.c] 49)).alloc (.cells #[.int .u64 q.seq, .slice q.a q.l.length q.c] 49) = W0 at *
      obtain ⟨b, hb⟩ : ∃ b, b = w.heap.size := ⟨_, rfl⟩
      have HBW := Lib.hid hb
      rw [← hb] at X1 X2 HSZ ⊢
      clear hb
      refine (HSM.out _ HF0.out).mono ?_
      rintro e w1 ⟨rfl, hf⟩
      have HF1 := Lib.hid hf
      obtain ⟨q0, q1, _⟩ := st2_box (hf.at X2.out)
      clear hf
      go_wp2_with (fail)
      refine (HSM'.out _ (HF0.out.trans HF1.out)).mono ?_
      rintro e w2 ⟨rfl, hf⟩
      have HF2 := Lib.hid (HF1.out.trans hf)
      clear hf q0 q1 HF1
      go_wp2_with (fail)
      all_goals try (exfalso; omega)
      rename_i KK hKK
      refine wp_region_any rfl ?_
      refine region2 (w0 := W0) (p := p) (q := q) (b := b) (c := b + 1) ⟨HPA.out.1.move HF0.out, HPA.out.2⟩ ⟨HQA.out.1.move HF0.out, HQA.out.2⟩ rfl rfl rfl rfl (HF2.out.at X1.out) (HF2.out.at X2.out) HF2.out.drew (by rw [HSZ.out]; omega) (by rw [HSZ.out]; omega) ?_
      intro a5 W5 m n zx zy hres
      refine hKK a5 W5 ?_
      have hact := hres.act rfl rfl
      have HM := Lib.hid hres.mp
      have HN := Lib.hid hres.nq
      have HMR : Hid (AtL m.l W5 m.a) := hres.om.choose_spec.at
      have HNR : Hid (AtL n.l W5 n.a) := hres.on.choose_spec.at
      have G1 := Lib.hid hres.g1
      have G2 := Lib.hid hres.g2
      have G3 := Lib.hid hres.g3
      have G4 := Lib.hid hres.g4
      have HF5 := Lib.hid (HF0.out.trans hres.fr)
      clear hres hKK X1 X2 HPA HQA HF2 HSM HSM'
      subst hact
      simp only [Act.put, List.setIfInBounds_toArray, List.set_cons_zero, List.set_cons_succ]
      have HKP : Hid (∀ W, Fresh W5 W → (W.cell? ⟨b, 0, none⟩ = some (.int .u64 p.seq) ∧ W.cell? ⟨b, 1, none⟩ = some (.slice p.a p.l.length p.c) ∧ W.cell? ⟨b + 1, 0, none⟩ = some (.int .u64 q.seq) ∧ W.cell? ⟨b + 1, 1, none⟩ = some (.slice q.a q.l.length q.c)) ∧ W.cell? ⟨zx, 0, none⟩ = some (.int .u64 m.seq) ∧ W.cell? ⟨zx, 1, none⟩ = some (.slice m.a m.l.length m.c) ∧ W.cell? ⟨zy, 0, none⟩ = some (.int .u64 n.seq) ∧ W.cell? ⟨zy, 1, none⟩ = some (.slice n.a n.l.length n.c)) := fun W f =>
        ⟨⟨(st2_box (f.at G1.out)).1, (st2_box (f.at G1.out)).2.1, (st2_box (f.at G2.out)).1, (st2_box (f.at G2.out)).2.1⟩, (st2_box (f.at G3.out)).1, (st2_box (f.at G3.out)).2.1, (st2_box (f.at G4.out)).1, (st2_box (f.at G4.out)).2.1⟩
      clear G1 G2 G3 G4
      have HVM : Hid (m.val = .agg #[.int .u64 m.seq, .slice m.a m.l.length m.c]) := rfl
      have HVN : Hid (n.val = .agg #[.int .u64 n.seq, .slice n.a n.l.length n.c]) := rfl
      have HSP := Lib.hid (fun W (f : Fresh W5 W) => HSP.out m W HM.out (HMR.out.move f))
      have HBY := Lib.hid (fun h W (f : Fresh W5 W) => HBY.out h m W HM.out (HMR.out.move f))
      have HRS := Lib.hid (fun W (f : Fresh W5 W) => HRS.out m n W HM.out HN.out (HMR.out.move f) (HNR.out.move f))
      rw [HVM.out] at HSP HBY
      rw [HVM.out, HVN.out] at HRS
      clear HM HN HMR HNR HVM HVN
      obtain ⟨⟨k0, k1, k2, k3⟩, k4, k5, k6, k7⟩ := HKP.out W5 (.refl _)
      have HK := Lib.hid (Fresh.refl W5)
      have HCK := Lib.hid (fun W (f : Fresh W5 W) => HCK.out W (HF5.out.trans f))
      have HSS := Lib.hid (fun W (f : Fresh W5 W) => HSS.out W (HF5.out.trans f))
      have HS1 := Lib.hid (fun W (f : Fresh W5 W) => HS1.out W (HF5.out.trans f))
      have HEO := Lib.hid (fun h W (f : Fresh W5 W) => HEO.out h W (HF5.out.trans f))
      have HEB := Lib.hid (fun h W (f : Fresh W5 W) => HEB.out h W (HF5.out.trans f))
      generalize m.l.length = ml at *
      generalize n.l.length = nl at *
      generalize p.l.length = pl at *
      generalize q.l.length = ql at *
      go_wp2_with (fail)
      refine (HSP.out _ HK.out).mono ?_
      rintro e w6 ⟨rfl, hf⟩
      have HK := Lib.hid (HK.out.trans hf)
      obtain ⟨⟨k0, k1, k2, k3⟩, k4, k5, k6, k7⟩ := HKP.out _ HK.out
      clear hf
      by_cases hK0 : K = 0
      case pos =>
        have HEO2 := Lib.hid (HEO.out hK0)
        have HBY2 := Lib.hid (HBY.out hK0)
        clear HEB HEO HBY
        subst hK0
        go_wp2_with (fail)
        refine (HEO2.out _ HK.out).mono ?_
        rintro e w7 ⟨rfl, hf⟩
        have HK := Lib.hid (HK.out.trans hf)
        obtain ⟨⟨k0, k1, k2, k3⟩, k4, k5, k6, k7⟩ := HKP.out _ HK.out
        clear hf
        go_wp2_with (fail)
        refine (HCK.out _ HK.out).mono ?_
        rintro e w8 ⟨rfl, hf⟩
        have HK := Lib.hid (HK.out.trans hf)
        obtain ⟨⟨k0, k1, k2, k3⟩, k4, k5, k6, k7⟩ := HKP.out _ HK.out
        clear hf
        go_wp2_with (fail)
        refine (HBY2.out _ HK.out).mono ?_
        rintro e w9 ⟨rfl, hf⟩
        have HK := Lib.hid (HK.out.trans hf)
        obtain ⟨⟨k0, k1, k2, k3⟩, k4, k5, k6, k7⟩ := HKP.out _ HK.out
        clear hf
        go_wp2_with (fail)
        have HK := Lib.hid HK.out.drew
        go_region_held3 (fun w' => ((w'.cell? ⟨b, 0, none⟩ = some (.int .u64 p.seq) ∧ w'.cell? ⟨b, 1, none⟩ = some (.slice p.a pl p.c) ∧ w'.cell? ⟨b + 1, 0, none⟩ = some (.int .u64 q.seq) ∧ w'.cell? ⟨b + 1, 1, none⟩ = some (.slice q.a ql q.c)) ∧ w'.cell? ⟨zx, 0, none⟩ = some (.int .u64 m.seq) ∧ w'.cell? ⟨zx, 1, none⟩ = some (.slice m.a ml m.c) ∧ w'.cell? ⟨zy, 0, none⟩ = some (.int .u64 n.seq) ∧ w'.cell? ⟨zy, 1, none⟩ = some (.slice n.a nl n.c))) (go_keep)
          (first
            | (go_at_call 23; (with_reducible refine (HAW.out _).mono ?_); rintro e W2 ⟨rfl, hf⟩; have HK := Lib.hid (HK.out.trans hf); obtain ⟨⟨k0, k1, k2, k3⟩, k4, k5, k6, k7⟩ := HKP.out _ HK.out; clear hf)
            | (go_at_call 29; (with_reducible refine (HSS.out _ HK.out).mono ?_); rintro e W2 ⟨rfl, hf⟩; have HK := Lib.hid (HK.out.trans hf); obtain ⟨⟨k0, k1, k2, k3⟩, k4, k5, k6, k7⟩ := HKP.out _ HK.out; clear hf)
            | (go_at_call 30; (with_reducible refine (HRS.out _ HK.out).mono ?_); rintro e W2 ⟨rfl, hf⟩; have HK := Lib.hid (HK.out.trans hf); obtain ⟨⟨k0, k1, k2, k3⟩, k4, k5, k6, k7⟩ := HKP.out _ HK.out; clear hf)
            | (go_at_call 29; (with_reducible refine (HS1.out _ HK.out).mono ?_); rintro e W2 ⟨rfl, hf⟩; have HK := Lib.hid (HK.out.trans hf); obtain ⟨⟨k0, k1, k2, k3⟩, k4, k5, k6, k7⟩ := HKP.out _ HK.out; clear hf))
        all_goals go_wp2
        all_goals go_ret
        all_goals exact ⟨rfl, HF5.out.trans HK.out⟩
      case neg =>
        have HEB2 := Lib.hid (HEB.out hK0)
        have e0 : (K == 0) = false := by rw [beq_eq_false_iff_ne]; exact hK0
        have e1 : (K != 0) = true := by simpa using hK0
        clear HEO HBY HEB hK0
        go_wp2_with (fail)
        refine (HEB2.out _ HK.out).mono ?_
        rintro e w7 ⟨rfl, hf⟩
        have HK := Lib.hid (HK.out.trans hf)
        obtain ⟨⟨k0, k1, k2, k3⟩, k4, k5, k6, k7⟩ := HKP.out _ HK.out
        clear hf
        go_wp2_with (fail)
        refine (HCK.out _ HK.out).mono ?_
        rintro e w8 ⟨rfl, hf⟩
        have HK := Lib.hid (HK.out.trans hf)
        obtain ⟨⟨k0, k1, k2, k3⟩, k4, k5, k6, k7⟩ := HKP.out _ HK.out
        clear hf
        go_wp2_with (fail)
        have HK := Lib.hid HK.out.drew
        go_region_held3 (fun w' => ((w'.cell? ⟨b, 0, none⟩ = some (.int .u64 p.seq) ∧ w'.cell? ⟨b, 1, none⟩ = some (.slice p.a pl p.c) ∧ w'.cell? ⟨b + 1, 0, none⟩ = some (.int .u64 q.seq) ∧ w'.cell? ⟨b + 1, 1, none⟩ = some (.slice q.a ql q.c)) ∧ w'.cell? ⟨zx, 0, none⟩ = some (.int .u64 m.seq) ∧ w'.cell? ⟨zx, 1, none⟩ = some (.slice m.a ml m.c) ∧ w'.cell? ⟨zy, 0, none⟩ = some (.int .u64 n.seq) ∧ w'.cell? ⟨zy, 1, none⟩ = some (.slice n.a nl n.c))) (go_keep)
          (first
            | (go_at_call 23; (with_reducible refine (HAW.out _).mono ?_); rintro e W2 ⟨rfl, hf⟩; have HK := Lib.hid (HK.out.trans hf); obtain ⟨⟨k0, k1, k2, k3⟩, k4, k5, k6, k7⟩ := HKP.out _ HK.out; clear hf)
            | (go_at_call 29; (with_reducible refine (HSS.out _ HK.out).mono ?_); rintro e W2 ⟨rfl, hf⟩; have HK := Lib.hid (HK.out.trans hf); obtain ⟨⟨k0, k1, k2, k3⟩, k4, k5, k6, k7⟩ := HKP.out _ HK.out; clear hf)
            | (go_at_call 30; (with_reducible refine (HRS.out _ HK.out).mono ?_); rintro e W2 ⟨rfl, hf⟩; have HK := Lib.hid (HK.out.trans hf); obtain ⟨⟨k0, k1, k2, k3⟩, k4, k5, k6, k7⟩ := HKP.out _ HK.out; clear hf)
            | (go_at_call 29; (with_reducible refine (HS1.out _ HK.out).mono ?_); rintro e W2 ⟨rfl, hf⟩; have HK := Lib.hid (HK.out.trans hf); obtain ⟨⟨k0, k1, k2, k3⟩, k4, k5, k6, k7⟩ := HKP.out _ HK.out; clear hf))
        all_goals go_wp2
        all_goals go_ret
        all_goals exact ⟨rfl, HF5.out.trans HK.out⟩
end Go.Proofs.Ytphjhlnjfcfdcaa
namespace Go.Proofs.Ytphjhlnjfcfdcaa.cktwoCodes
open Go.ChangeShapes Go.WideShapes Go.ChangeAt Go.RowKit
set_option linter.unusedVariables false

/-! ### From the walk to the row -/
set_option maxRecDepth 100000 in
theorem contract (H : Type) (enc : TypeId × Value → H) (W : World) (base : Nat) (args : Array Value) (ds gs : List (DataW H)) (before : List MemPlace)
    (hval0 : ∀ (j : Nat) t v, Try.f6.params[j]? = some t → args[j]? = some v → Value.okWide Try.prog W .any base t v)
    (hW : DataW.Whole enc Try.prog Try.f6.params.toList Rows.cktwoCodesSpec.vars false W args.toList ds gs before)
    (hk : Rows.uptoSmall H (ds ++ gs) = true) :
    Calls Try.prog 6 args W fun e W' => ∃ v, e = .returned v ∧ Rows.cktwoCodesSpec.post enc Try.prog Try.f6 false true false false W args v W' := by
  have hval : ∀ (j : Nat) t v, Try.f6.params[j]? = some t → args[j]? = some v → Value.okWide Try.prog W .any base t v := hval0
  have hW' := hW
  obtain ⟨p, q, hA0, hV, rfl, hfz, hnd⟩ := hW
  have hA : DataW.TrodAll enc Try.prog W 0 (fun _ => true) true Try.f6.params.toList args.toList ds p := hA0
  rw [Try.params6] at hA hval
  obtain ⟨v0, vs0, d0, ds0, p0, q0, hargs, rfl, rfl, h0, r0⟩ := trodAll_cons hA
  obtain ⟨v1, vs1, d1, ds1, p1, q1, rfl, rfl, rfl, h1, r1⟩ := trodAll_cons r0
  obtain ⟨rfl, rfl, rfl⟩ := trodAll_nil r1
  obtain rfl : args = #[v0, v1] := by cases args; simp_all
  obtain ⟨rfl, rfl⟩ := trodVars_none hV
  have hk2 : Rows.uptoBulkAll ([d0, d1] ++ []) ≤ 1048576 := of_decide_eq_true hk
  simp only [List.append_nil, Rows.uptoBulkAll] at hk2
  obtain ⟨seq, l, a, c, e0, a0, l0⟩ := arg_st2 (hval 0 49 v0 rfl rfl) h0
  obtain ⟨seq', l', a', c', e1, a1, l1⟩ := arg_st2 (hval 1 49 v1 rfl rfl) h1
  have lt0 := trod_low h0
  have lt1 := trod_low h1
  obtain ⟨n0, b0⟩ := l0.bk 1048576 (by omega)
  obtain ⟨n1, b1⟩ := l1.bk 1048576 (by omega)
  have hf0 : ∀ x ∈ pods2 l, x.Fit 1048576 ∧ x.cs.length ≤ 1048576 := fun x hx => by
    obtain ⟨m, hm, rfl⟩ := List.mem_map.1 hx
    exact b0 m hm
  have hf1 : ∀ x ∈ pods2 l', x.Fit 1048576 ∧ x.cs.length ≤ 1048576 := fun x hx => by
    obtain ⟨m, hm, rfl⟩ := List.mem_map.1 hx
    exact b1 m hm
  subst e0 e1
  clear hA0 hval0
  simp only [List.append_nil] at hW'
  have hcod := codes2_any ⟨seq, a, pods2 l, c⟩ ⟨seq', a', pods2 l', c'⟩ W ⟨l, rfl, a0⟩ ⟨l', rfl, a1⟩ hf0 hf1 (by rw [pods2_length]; exact n0) (by rw [pods2_length]; exact n1) l0.s0 l0.s1
  have v0 : SM2.val ⟨seq, a, pods2 l, c⟩ = st2 seq a l.length c := by unfold SM2.val st2; rw [pods2_length]
  have v1 : SM2.val ⟨seq', a', pods2 l', c'⟩ = st2 seq' a' l'.length c' := by unfold SM2.val st2; rw [pods2_length]
  rw [v0, v1] at hcod
  refine hcod.mono fun e W' ⟨he, hg⟩ => ?_
  subst he
  exact ⟨_, rfl, _, _, _, [], _, [], hW', trodAll_mk1 (shut_bool Try.underlying4 _), (trodAll_cons_mk (Below.trod laidOut (by kernel_rfl) (of_decide_eq_true (by kernel_rfl)) h0 hg lt0) (trodAll_cons_mk (Below.trod laidOut (by kernel_rfl) (of_decide_eq_true (by kernel_rfl)) h1 hg lt1) trodAll_mk0)), rfl, Below.frame hg _, fun h => by cases h⟩
set_option maxRecDepth 100000 in
theorem lifted (os : Os) (started : os.Started) (H : Type) (enc : TypeId × Value → H) (F : Stop.Interp) :
    ReturnsInHanded {} Try.checked os 6 .any ((Rows.OpenSpec.upto Rows.cktwoCodesSpec).pre6 enc Try.prog Try.f6 Rows.cktwoCodesUptoRow.domain false) (((Rows.OpenSpec.upto Rows.cktwoCodesSpec).at F).post enc Try.prog Try.f6 false true false false) := by
  refine returnsInHanded_of_cond (C := Try.checked) (s := Rows.OpenSpec.upto Rows.cktwoCodesSpec) (k := Rows.uptoSmall) rfl own_knob started (by kernel_rfl) Try.func6
    (OpenSpec.witness (enc := enc) (C := Try.checked) (s := Rows.OpenSpec.upto Rows.cktwoCodesSpec) (k := Rows.uptoSmall) rfl false ⟨#[], #[.agg #[.int .u64 0, .slice none 0 0], .agg #[.int .u64 0, .slice none 0 0]], []⟩ 8 (by kernel_rfl) (by kernel_rfl) (by kernel_rfl)
      (x := ([.agg [.lit (.int .u64 0), .nil], .agg [.lit (.int .u64 0), .nil]], [], [])) (by kernel_rfl) rfl (by kernel_rfl)) ?_
  intro W base args ds gs before hval hW _ hk _
  exact contract H enc W base args ds gs before hval hW hk

theorem cktwoCodes_holds : Rows.CktwoCodesUptoSaid :=
  OpenClaim.holds_of_cond 6 Try.f6 rfl rfl rfl rfl rfl rfl rfl ⟨rfl, rfl, rfl, rfl, rfl⟩ rfl rfl rfl rfl rfl (by kernel_rfl) Try.func6 (by kernel_rfl)
    (of_decide_eq_true (by kernel_rfl)) (by unfold Func.isWrapper; first | (rw [if_pos (by decide +kernel)]; kernel_rfl) | (rw [if_neg (by decide +kernel)]; exact ⟨rfl, rfl⟩))
    (fun os started H enc _ F => lifted os started H enc F)
#print axioms cktwoCodes_holds
end Go.Proofs.Ytphjhlnjfcfdcaa.cktwoCodes
