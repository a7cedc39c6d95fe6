/-
  Rows that a call owns: what leaves them as they are.
-/
import Derived.Test.YtphjhlnjfcfdcaaSBase
import Derived.Test.YtphjhlnjfcfdcaaSTexts
import Derived.RangeFuncBox
import Derived.Deep.Onto
namespace Go.Proofs.Ytphjhlnjfcfdcaa
open Go.ChangeShapes Go.WideShapes Go.ChangeAt Go.RowKit

theorem Fresh.grownBy' {w w' : World} (hf : Fresh w w') (row : Option Nat) : w.grownBy w' row := ⟨hf.os, hf.tape, hf.output, hf.size, fun k hk _ => hf.block k hk⟩
theorem at_set {W : World} {b : Nat} {cs : Array Value} {t : TypeId} {z : Nat × Nat} (h : W.heap[b]? = some (.cells cs t z)) (i : Nat) (v : Value) : (W.setCell ⟨b, i, none⟩ v).heap[b]? = some (.cells (cs.setIfInBounds i v) t z) := by
  simp [World.setCell, Array.getElem?_modify, h]
theorem own_le {w : World} {B : Nat} {t : TypeId} {k n c : Nat} {o : Option Addr} {xs : List Value} (h : w.ownsRow B t k (.slice o n c) n xs) : n ≤ c := by
  rcases h.2 with ⟨e, hn⟩ | ⟨g, cap, cur, e, _, _, hn, _⟩
  · cases e; omega
  · cases e; exact hn
theorem news7 (w : World) (t : Nat) (l : List Value) : ∀ j u, l[j]? = some u → (w.alloc (.cells l.toArray t)).cell? ((⟨w.heap.size, 0, none⟩ : Addr).add j) = some u := fun j u hj => by
  rw [addr_add0]
  exact cell_of_at (at_new w (.cells l.toArray t)) (by simpa using hj)
theorem RowAt.set {w : World} {a : Option Addr} {cs : List Value} (h : RowAt w a cs) {p : Addr} (hp : ∀ ad : Addr, a = some ad → ad.block ≠ p.block) (v : Value) : RowAt (w.setCell p v) a cs := by
  rcases h with h | ⟨g, o, e, h⟩
  · exact .inl h
  · refine .inr ⟨g, o, e, fun j x hj => ?_⟩
    rw [World.cell?_setCell_other (a := p) (b := ⟨g, o + j, none⟩) (h := fun e2 => hp ⟨g, o, none⟩ e (by rw [e2]))]
    exact h j x hj
theorem tl_some {s : ByteArray} (h : ¬ s = ⟨#[]⟩) : s.toList.isEmpty = false := by
  rw [Lib.toList_data]
  cases hs : s.data.toList with
  | nil => exact absurd (ByteArray.ext (Array.toList_inj.1 hs)) h
  | cons a l => rfl
theorem own_ne {W : World} {B B' : Nat} {e e' k k' n n' : Nat} {v v' : Value} {xs xs' : List Value} (h : W.ownsRow B e k v n xs) (h' : W.ownsRow B' e' k' v' n' xs') (hne : e ≠ e') : v.ownBlock = none ∨ v.ownBlock ≠ v'.ownBlock := by
  rcases h.2 with ⟨rfl, _⟩ | ⟨g, cap, cur, rfl, _, hg, _⟩
  · exact .inl rfl
  · refine .inr fun e2 => ?_
    rcases h'.2 with ⟨rfl, _⟩ | ⟨g', cap', cur', rfl, _, hg', _⟩
    · cases e2
    · have : g = g' := by simpa [Value.ownBlock] using e2
      subst this
      rw [hg] at hg'
      cases hg'
      exact hne rfl
theorem own_fresh {W W' : World} {B e k n : Nat} {v : Value} {xs : List Value} (h : W.ownsRow B e k v n xs) (f : Fresh W W') : W'.ownsRow B e k v n xs := by
  refine World.ownsRow.kept (row := none) h (f.grownBy' none) ?_
  rcases h' : v.ownBlock with _ | g
  · exact .inl rfl
  · exact .inr (by simp)
theorem own_set {W : World} {B e k n : Nat} {v : Value} {xs : List Value} (h : W.ownsRow B e k v n xs) {p : Addr} (hp : p.block < B) (u : Value) : (W.setCell ⟨p.block, p.off, none⟩ u).ownsRow B e k v n xs := by
  refine World.ownsRow.kept h (grown_set W p.block p.off u) ?_
  rcases h' : v.ownBlock with _ | g
  · exact .inl rfl
  · refine .inr fun e2 => ?_
    have := (World.ownsRow.lt h g h').1
    have e3 : g = p.block := by simpa using e2
    omega
theorem at_off {W : World} {b : Nat} {o : Obj} (h : W.heap[b]? = some o) {g i : Nat} (hne : b ≠ g) (v : Value) : (W.setCell ⟨g, i, none⟩ v).heap[b]? = some o := by
  rw [(grown_set W g i v).block b (lt_of_at h) (fun e => hne (by cases e; rfl))]; exact h
theorem row_shape2 {w : World} {B e k n : Nat} {v : Value} {xs : List Value} (h : w.ownsRow B e k v n xs) : ∃ o c, v = .slice o n c := by
  rcases h.2 with ⟨h1, h2⟩ | ⟨g, cap, c2, h1, _⟩
  · exact ⟨none, 0, by rw [h1, h2]⟩
  · exact ⟨_, _, h1⟩
theorem own_type {W : World} {B e k n : Nat} {v : Value} {xs : List Value} (h : W.ownsRow B e k v n xs) {z t : Nat} {cs : Array Value} {fz : Nat × Nat} (hz : W.heap[z]? = some (.cells cs t fz)) (hne : e ≠ t) (i : Nat) (u : Value) : (W.setCell ⟨z, i, none⟩ u).ownsRow B e k v n xs := by
  refine World.ownsRow.kept h (grown_set W z i u) ?_
  rcases h.2 with ⟨rfl, _⟩ | ⟨g, cap, cur, rfl, _, hg, _⟩
  · exact .inl rfl
  · refine .inr fun e2 => ?_
    have : g = z := by simpa [Value.ownBlock] using e2
    subst this
    rw [hg] at hz
    cases hz
    exact hne rfl
theorem two_boxes (w : World) (o p : Obj) : ((w.alloc o).alloc p).heap[w.heap.size]? = some o ∧ ((w.alloc o).alloc p).heap[w.heap.size + 1]? = some p ∧ Fresh w ((w.alloc o).alloc p) ∧ ((w.alloc o).alloc p).heap.size = w.heap.size + 2 :=
  ⟨at_alloc (at_new w o), by have := at_new (w.alloc o) p; rw [World.size_alloc] at this; exact this, ((Fresh.refl w).alloc _).alloc _, by simp⟩
theorem frozen_of_at {w : World} {b : Nat} {cs : Array Value} {t : TypeId} (h : w.heap[b]? = some (.cells cs t)) (i : Nat) : w.frozen? ⟨b, i, none⟩ = false := by simp [World.frozen?, h]
theorem list_ext {a b : ByteArray} (h : a.data.toList = b.data.toList) : a = b := ByteArray.ext (Array.toList_inj.1 h)
theorem app_list (a b : ByteArray) : (a ++ b).data.toList = a.data.toList ++ b.data.toList := by
  cases a; cases b; rw [ByteArray.mk_append_mk]
theorem tx_app (l m : List UInt8) : tx l ++ tx m = tx (l ++ m) := by
  apply ByteArray.ext
  simp [tx]
end Go.Proofs.Ytphjhlnjfcfdcaa
