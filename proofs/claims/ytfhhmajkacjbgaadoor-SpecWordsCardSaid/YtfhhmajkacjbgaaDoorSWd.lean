/-
  A container with its defaults, by package spec.
-/
import Derived.Test.YtfhhmajkacjbgaaDoorSClone
import Derived.Test.YtfhhmajkacjbgaaDoorDClone
import Derived.Test.YtfhhmajkacjbgaaDoorSFun0
import Derived.RegionTactic
import Derived.Deep.RegionHeld3
namespace Go.Proofs.YtfhhmajkacjbgaaDoor
open Go.ChangeShapes Go.WideShapes Go.ChangeAt Go.RowKit
attribute [local go_sem ↓] Go.wp_at_zero Go.wp_at_succ

/-- A container whose rows the call owns, from block B on. -/
structure QIn (W : World) (B : Nat) (m : CM) : Prop where
  cmd : W.ownsRow B 9 1 (.slice m.ca m.c.cmd.length m.cc) m.c.cmd.length (tcells m.c.cmd)
  ports : W.ownsRow B 55 2 (.slice m.pa m.c.ports.length m.pc) m.c.ports.length (pcells m.c.ports)
  env : W.ownsRow B 64 2 (.slice m.ea m.c.env.length m.ec) m.c.env.length (ecells m.c.env)
theorem own_fresh' {W W' : World} {B e k n : Nat} {v : Value} {xs : List Value} (h : W.ownsRow B e k v n xs) (f : Fresh W W') : W'.ownsRow B e k v n xs := by
  refine World.ownsRow.kept (row := none) h (f.grownBy' none) ?_
  rcases h' : v.ownBlock with _ | g
  · exact .inl rfl
  · exact .inr (by simp)
theorem own_set' {W : World} {B e k n : Nat} {v : Value} {xs : List Value} (h : W.ownsRow B e k v n xs) {p : Addr} (hp : p.block < B) (u : Value) : (W.setCell ⟨p.block, p.off, none⟩ u).ownsRow B e k v n xs := by
  refine World.ownsRow.kept h (grown_set W p.block p.off u) ?_
  rcases h' : v.ownBlock with _ | g
  · exact .inl rfl
  · refine .inr fun e2 => ?_
    have := (World.ownsRow.lt h g h').1
    have e3 : g = p.block := by simpa using e2
    omega
theorem set_same {α : Type} {l : List α} {j : Nat} {x : α} (h : l[j]? = some x) : l.set j x = l := by
  apply List.ext_getElem?
  intro i
  rw [List.getElem?_set]
  split
  · rename_i e
    subst e
    rw [h]
    split
    · rfl
    · rename_i h2
      have := (List.getElem?_eq_some_iff.1 h).1
      omega
  · rfl
theorem at_off' {W : World} {b : Nat} {o : Obj} (h : W.heap[b]? = some o) {g i : Nat} (hne : b ≠ g) (v : Value) : (W.setCell ⟨g, i, none⟩ v).heap[b]? = some o := by
  rw [(grown_set W g i v).block b (lt_of_at h) (fun e => hne (by cases e; rfl))]; exact h
/-- An owned row is nil and empty, or begins at the head of a block. -/
theorem own_form {w : World} {B e k n c : Nat} {o : Option Addr} {xs : List Value} (h : w.ownsRow B e k (.slice o n c) n xs) {i : Nat} (hi : i < n) : ∃ g, o = some ⟨g, 0, none⟩ ∧ B ≤ g ∧ n ≤ c := by
  rcases h.2 with ⟨e1, hn⟩ | ⟨g, cap, cur, e1, hb, _, hn, _⟩
  · omega
  · cases e1; exact ⟨g, rfl, hb, hn⟩
abbrev zero7 : Obj := .cells #[.string ⟨#[]⟩, .string ⟨#[]⟩, .slice none 0 0, .slice none 0 0, .int .i64 0, .int .i64 0, .slice none 0 0] 53
/-- What stands between the steps: both boxes. -/
structure WDS (w W : World) (b : Nat) (s0 s1 : ByteArray) (v2 v3 : Value) (n4 n5 : Int) (v6 : Value) : Prop where
  at1 : W.heap[b]? = some (.cells #[.string s0, .string s1, v2, v3, .int .i64 n4, .int .i64 n5, v6] 53)
  at2 : W.heap[b + 1]? = some zero7
  fr : Fresh w W
  sz : b + 2 ≤ W.heap.size
  bw : w.heap.size = b
section
variable {w W W' : World} {b : Nat} {s0 s1 : ByteArray} {v2 v3 : Value} {n4 n5 : Int} {v6 : Value}
theorem WDS.start : WDS w ((w.alloc (.cells #[.string s0, .string s1, v2, v3, .int .i64 n4, .int .i64 n5, v6] 53)).alloc zero7) w.heap.size s0 s1 v2 v3 n4 n5 v6 where
  at1 := at_alloc (at_new _ _)
  at2 := by have := at_new (w.alloc (.cells #[.string s0, .string s1, v2, v3, .int .i64 n4, .int .i64 n5, v6] 53)) zero7; rw [World.size_alloc] at this; exact this
  fr := ((Fresh.refl w).alloc _).alloc _
  sz := by simp
  bw := rfl
theorem WDS.go (h : WDS w W b s0 s1 v2 v3 n4 n5 v6) (f : Fresh W W') : WDS w W' b s0 s1 v2 v3 n4 n5 v6 :=
  ⟨f.at h.at1, f.at h.at2, h.fr.trans f, Nat.le_trans h.sz f.size, h.bw⟩
theorem WDS.off (h : WDS w W b s0 s1 v2 v3 n4 n5 v6) {g i : Nat} (hg : b + 2 ≤ g) (u : Value) : WDS w (W.setCell ⟨g, i, none⟩ u) b s0 s1 v2 v3 n4 n5 v6 :=
  ⟨at_off' h.at1 (by omega) u, at_off' h.at2 (by omega) u, h.fr.setCell (p := ⟨g, i, none⟩) (by have := h.bw; show w.heap.size ≤ g; omega) u, by simpa using h.sz, h.bw⟩
theorem WDS.set0 (h : WDS w W b s0 s1 v2 v3 n4 n5 v6) (s : ByteArray) : WDS w (W.setCell ⟨b, 0, none⟩ (.string s)) b s s1 v2 v3 n4 n5 v6 :=
  ⟨at_set h.at1 0 _, at_off' h.at2 (by omega) _, h.fr.setCell (p := ⟨b, 0, none⟩) (by have := h.bw; show w.heap.size ≤ b; omega) _, by simpa using h.sz, h.bw⟩
theorem WDS.set1 (h : WDS w W b s0 s1 v2 v3 n4 n5 v6) (s : ByteArray) : WDS w (W.setCell ⟨b, 1, none⟩ (.string s)) b s0 s v2 v3 n4 n5 v6 :=
  ⟨at_set h.at1 1 _, at_off' h.at2 (by omega) _, h.fr.setCell (p := ⟨b, 1, none⟩) (by have := h.bw; show w.heap.size ≤ b; omega) _, by simpa using h.sz, h.bw⟩
theorem WDS.set2 (h : WDS w W b s0 s1 v2 v3 n4 n5 v6) (u : Value) : WDS w (W.setCell ⟨b, 2, none⟩ u) b s0 s1 u v3 n4 n5 v6 :=
  ⟨at_set h.at1 2 _, at_off' h.at2 (by omega) _, h.fr.setCell (p := ⟨b, 2, none⟩) (by have := h.bw; show w.heap.size ≤ b; omega) _, by simpa using h.sz, h.bw⟩
theorem WDS.set3 (h : WDS w W b s0 s1 v2 v3 n4 n5 v6) (u : Value) : WDS w (W.setCell ⟨b, 3, none⟩ u) b s0 s1 v2 u n4 n5 v6 :=
  ⟨at_set h.at1 3 _, at_off' h.at2 (by omega) _, h.fr.setCell (p := ⟨b, 3, none⟩) (by have := h.bw; show w.heap.size ≤ b; omega) _, by simpa using h.sz, h.bw⟩
theorem WDS.set4 (h : WDS w W b s0 s1 v2 v3 n4 n5 v6) (n : Int) : WDS w (W.setCell ⟨b, 4, none⟩ (.int .i64 n)) b s0 s1 v2 v3 n n5 v6 :=
  ⟨at_set h.at1 4 _, at_off' h.at2 (by omega) _, h.fr.setCell (p := ⟨b, 4, none⟩) (by have := h.bw; show w.heap.size ≤ b; omega) _, by simpa using h.sz, h.bw⟩
theorem WDS.set5 (h : WDS w W b s0 s1 v2 v3 n4 n5 v6) (n : Int) : WDS w (W.setCell ⟨b, 5, none⟩ (.int .i64 n)) b s0 s1 v2 v3 n4 n v6 :=
  ⟨at_set h.at1 5 _, at_off' h.at2 (by omega) _, h.fr.setCell (p := ⟨b, 5, none⟩) (by have := h.bw; show w.heap.size ≤ b; omega) _, by simpa using h.sz, h.bw⟩
theorem WDS.set6 (h : WDS w W b s0 s1 v2 v3 n4 n5 v6) (u : Value) : WDS w (W.setCell ⟨b, 6, none⟩ u) b s0 s1 v2 v3 n4 n5 u :=
  ⟨at_set h.at1 6 _, at_off' h.at2 (by omega) _, h.fr.setCell (p := ⟨b, 6, none⟩) (by have := h.bw; show w.heap.size ≤ b; omega) _, by simpa using h.sz, h.bw⟩
theorem WDS.cells (h : WDS w W b s0 s1 v2 v3 n4 n5 v6) :
    (W.cell? ⟨b, 0, none⟩ = some (.string s0) ∧ W.cell? ⟨b, 1, none⟩ = some (.string s1) ∧ W.cell? ⟨b, 2, none⟩ = some v2 ∧ W.cell? ⟨b, 3, none⟩ = some v3 ∧ W.cell? ⟨b, 4, none⟩ = some (.int .i64 n4) ∧ W.cell? ⟨b, 5, none⟩ = some (.int .i64 n5) ∧ W.cell? ⟨b, 6, none⟩ = some v6) ∧ ∀ i, W.frozen? ⟨b, i, none⟩ = false :=
  Box7.cells (show Box7 53 W b s0 s1 v2 v3 n4 n5 v6 from h.at1)
end
end Go.Proofs.YtfhhmajkacjbgaaDoor
