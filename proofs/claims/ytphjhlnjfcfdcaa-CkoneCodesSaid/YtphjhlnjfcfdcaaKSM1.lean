/-
  States of version 1, with where their rows lie.
-/
import Derived.Test.YtphjhlnjfcfdcaaKOf
import Derived.Test.YtphjhlnjfcfdcaaKAny
namespace Go.Proofs.Ytphjhlnjfcfdcaa
open Go.ChangeShapes Go.WideShapes Go.ChangeAt Go.RowKit

structure SM1 where
  seq : Int
  a : Option Addr
  l : List P1
  c : Nat
def SM1.val (p : SM1) : Value := .agg #[.int .u32 p.seq, .slice p.a p.l.length p.c]
abbrev SM1.obj (p : SM1) (ty : Nat) : Obj := .cells #[.int .u32 p.seq, .slice p.a p.l.length p.c] ty
def SM1.At (p : SM1) (w : World) : Prop := RowAt w p.a (p1s p.l) ∧ p.l.length ≤ 4000000
def SM1.Own (p : SM1) (W : World) (B : Nat) : Prop := W.ownsRow B 67 4 (.slice p.a p.l.length p.c) p.l.length (p1s p.l)
theorem own1_fresh {p : SM1} {W W' : World} {B : Nat} (h : p.Own W B) (f : Fresh W W') : p.Own W' B := own_fresh h f
theorem own1_set {p : SM1} {W : World} {B z : Nat} {cs : Array Value} (h : p.Own W B) (hz : W.heap[z]? = some (.cells cs 30)) (i : Nat) (u : Value) : p.Own (W.setCell ⟨z, i, none⟩ u) B := own_type h hz (by decide) i u
theorem of1_own (p : SM1) (w0 W : World) (h : p.At w0) (f : Fresh w0 W) : Calls Try.prog 11 #[p.val] W fun e V => ∃ x : SM1, e = .returned x.val ∧ (x.seq = p.seq ∧ x.l = p.l) ∧ x.Own V W.heap.size ∧ Fresh W V :=
  (of_any p.seq p.a p.l p.c W (h.1.move f) h.2).mono fun _ _ ⟨a, c, h1, h2, h3⟩ => ⟨⟨p.seq, a, p.l, c⟩, h1, ⟨rfl, rfl⟩, h2, h3⟩
end Go.Proofs.Ytphjhlnjfcfdcaa
