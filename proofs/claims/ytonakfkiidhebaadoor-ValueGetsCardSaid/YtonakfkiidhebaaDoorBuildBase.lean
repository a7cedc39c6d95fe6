/-
  The statements' own Build: words for what it makes.
-/
import Derived.Test.YtonakfkiidhebaaDoorSmall
import Derived.Test.YtonakfkiidhebaaDoorInside
import Derived.Test.YtonakfkiidhebaaDoorRsame2
import Derived.RegionTactic
import Derived.Deep.RegionHeld3
import Derived.Deep.RegionHeldLaw
import Derived.Deep.DrawnRows
import Derived.Deep.DeepCutAuto
import Derived.Deep.CutRange
import Derived.Deep.CutBlock
import Derived.IntWalk
namespace Go.Proofs.YtonakfkiidhebaaDoor
open Go.ChangeShapes Go.WideShapes Go.ChangeAt Go.RowKit
attribute [local go_sem ↓] Go.wp_at_zero Go.wp_at_succ
variable {w : World}

/-- What stands on both stacks. -/
structure Stacks (w : World) (aa ab : Option Addr) (n i : Nat) (ms ns : List M) : Prop where
  la : ms.length = n
  lb : ns.length = n
  ra : RowAt w aa (mcells ms)
  rb : RowAt w ab (mcells ns)
  ma : ∀ m ∈ ms, m.At w
  mb : ∀ m ∈ ns, m.At w
  same : ms.map M.plain = ns.map M.plain
  size : sizeL (ms.map M.plain) ≤ i
theorem Stacks.move {w w' : World} {aa ab : Option Addr} {n i : Nat} {ms ns : List M} (h : Stacks w aa ab n i ms ns) (f : Fresh w w') : Stacks w' aa ab n i ms ns :=
  ⟨h.la, h.lb, h.ra.move f, h.rb.move f, fun m hm => (h.ma m hm).move f, fun m hm => (h.mb m hm).move f, h.same, h.size⟩
theorem Stacks.le {w : World} {aa ab : Option Addr} {n i : Nat} {ms ns : List M} (h : Stacks w aa ab n i ms ns) : n ≤ i := by
  have h1 := length_le_size (ms.map M.plain)
  rw [List.length_map, h.la] at h1
  exact Nat.le_trans h1 h.size
/-- A value and its twin, boxed. -/
structure Twins (w : World) (bx bz : Nat) (p : Pt) (s : Nat) (X Y : M) : Prop where
  bx : w.heap[bx]? = some (.cells X.cells.toArray 29 (0, 0))
  bz : w.heap[bz]? = some (.cells Y.cells.toArray 33 (0, 0))
  ax : X.At w
  ay : Y.At w
  same : X.plain = Y.plain
  size : X.plain.size ≤ 1 + s
  kind : X.kind = p.kind
/-- A list that is being built, and its twin: the boxes, and the rows. -/
structure Lists (wo wq : World) (B : Nat) (k m : Int) (f : Bool) (nn : Int) (s : ByteArray) (j : Nat) (la lz : Option Addr) (lc lzc : Nat) (xs ys : List M) : Prop where
  hB : wo.heap.size = B
  bp : wq.heap[B]? = some (.cells #[.int .i64 k, .int .i64 m, .bool f, .int .i64 nn, .string s] 60 (0, 0))
  bx : wq.heap[B + 1]? = some (.cells #[.int .i64 k, .bool f, .int .i64 nn, .string s, .slice la j lc, .slice none 0 0] 29 (0, 0))
  bz : wq.heap[B + 1 + 1]? = some (.cells #[.int .i64 k, .bool f, .int .i64 nn, .string s, .slice lz j lzc, .slice none 0 0] 33 (0, 0))
  rx : wq.ownsRow (B + 3) 29 6 (.slice la j lc) j (mcells xs)
  rz : wq.ownsRow (B + 3) 33 6 (.slice lz j lzc) j (mcells ys)
  fresh : Fresh wo wq
/-- Behind region 14: both values in boxes of their own. -/
structure Pair2 (wr wc : World) (b1 b2 : Nat) (cs ds : Array Value) : Prop where
  h1 : wc.heap[b1]? = some (.cells cs 29 (0, 0))
  h2 : wc.heap[b2]? = some (.cells ds 33 (0, 0))
  g1 : wr.heap.size ≤ b1
  g2 : wr.heap.size ≤ b2
  ne : b1 ≠ b2
  fresh : Fresh wr wc
theorem pair2_a (wr : World) (cs ds : Array Value) : Pair2 wr ((wr.alloc (.cells cs 29)).alloc (.cells ds 33)).drew wr.heap.size (wr.heap.size + 1) cs ds :=
  ⟨at_alloc (at_new wr _), by have := at_new (wr.alloc (.cells cs 29)) (.cells ds 33); rw [World.size_alloc] at this; exact this, Nat.le_refl _, Nat.le_succ _, by omega, (((Fresh.refl wr).alloc _).alloc _).drew⟩
theorem pair2_b (wr : World) (cs ds : Array Value) : Pair2 wr ((wr.alloc (.cells ds 33)).alloc (.cells cs 29)).drew (wr.heap.size + 1) wr.heap.size cs ds :=
  ⟨by have := at_new (wr.alloc (.cells ds 33)) (.cells cs 29); rw [World.size_alloc] at this; exact this, at_alloc (at_new wr _), Nat.le_succ _, Nat.le_refl _, by omega, (((Fresh.refl wr).alloc _).alloc _).drew⟩
theorem Lists.move {wo wr wq : World} {B : Nat} {k m : Int} {f : Bool} {nn : Int} {s : ByteArray} {j : Nat} {la lz : Option Addr} {lc lzc : Nat} {xs ys : List M} (h : Lists wo wr B k m f nn s j la lz lc lzc xs ys) (g : Fresh wr wq) : Lists wo wq B k m f nn s j la lz lc lzc xs ys :=
  ⟨h.hB, g.at h.bp, g.at h.bx, g.at h.bz, owns_move h.rx g, owns_move h.rz g, h.fresh.trans g⟩
/-- In the midst of region 16: the boxes as they are, and both rows. -/
structure Mid (wo W : World) (B : Nat) (k m : Int) (f : Bool) (nn : Int) (s : ByteArray) (bvx bvz : Value) (b1 b2 : Nat) (cs ds : Array Value) (ax az : Option Addr) (jx jz cx cz : Nat) (xs ys : List M) : Prop where
  hB : wo.heap.size = B
  bp : W.heap[B]? = some (.cells #[.int .i64 k, .int .i64 m, .bool f, .int .i64 nn, .string s] 60 (0, 0))
  bx : W.heap[B + 1]? = some (.cells #[.int .i64 k, .bool f, .int .i64 nn, .string s, bvx, .slice none 0 0] 29 (0, 0))
  bz : W.heap[B + 1 + 1]? = some (.cells #[.int .i64 k, .bool f, .int .i64 nn, .string s, bvz, .slice none 0 0] 33 (0, 0))
  h1 : W.heap[b1]? = some (.cells cs 29 (0, 0))
  h2 : W.heap[b2]? = some (.cells ds 33 (0, 0))
  rx : W.ownsRow (B + 3) 29 6 (.slice ax jx cx) jx (mcells xs)
  rz : W.ownsRow (B + 3) 33 6 (.slice az jz cz) jz (mcells ys)
  fresh : Fresh wo W
  nx : ∀ ad : Addr, ax = some ad → ad.block ≠ b1 ∧ ad.block ≠ b2
  nz : ∀ ad : Addr, az = some ad → ad.block ≠ b1 ∧ ad.block ≠ b2
theorem Mid.move {wo W w' : World} {B : Nat} {k m : Int} {f : Bool} {nn : Int} {s : ByteArray} {bvx bvz : Value} {b1 b2 : Nat} {cs ds : Array Value} {ax az : Option Addr} {jx jz cx cz : Nat} {xs ys : List M} (h : Mid wo W B k m f nn s bvx bvz b1 b2 cs ds ax az jx jz cx cz xs ys) (g : Fresh W w') : Mid wo w' B k m f nn s bvx bvz b1 b2 cs ds ax az jx jz cx cz xs ys :=
  ⟨h.hB, g.at h.bp, g.at h.bx, g.at h.bz, g.at h.h1, g.at h.h2, owns_move h.rx g, owns_move h.rz g, h.fresh.trans g, h.nx, h.nz⟩
theorem own_block {a : Option Addr} {n c k : Nat} (h : (Value.slice a n c).ownBlock = some k) : ∃ ad : Addr, a = some ad ∧ ad.block = k := by
  cases a with
  | none => cases h
  | some ad => exact ⟨ad, rfl, by simpa [Value.ownBlock] using h⟩
theorem own_type {w : World} {B : Nat} {t : TypeId} {k n m c : Nat} {a : Option Addr} {xs : List Value} (h : w.ownsRow B t k (.slice a m c) n xs) : ∀ ad : Addr, a = some ad → B ≤ ad.block ∧ ad.block < w.heap.size ∧ ∃ cur, w.heap[ad.block]? = some (.cells cur t (0, 0)) := by
  intro ad e
  subst e
  have hlt := h.lt ad.block rfl
  rcases h.2 with ⟨e, _⟩ | ⟨g, cap, cur, e, _, hh, _⟩
  · cases e
  · cases e
    exact ⟨hlt.1, hlt.2, cur, hh⟩
/-- Rows of two types lie apart. -/
theorem own_parted {w : World} {B B' : Nat} {t t' : TypeId} {k k' n n' m m' c c' : Nat} {a a' : Option Addr} {xs ys : List Value} (h : w.ownsRow B t k (.slice a m c) n xs) (h' : w.ownsRow B' t' k' (.slice a' m' c') n' ys) (ht : t ≠ t') (u v : Addr) (hu : a = some u) (hv : a' = some v) : u.block ≠ v.block := by
  obtain ⟨_, _, cur, h1⟩ := own_type h u hu
  obtain ⟨_, _, cur', h2⟩ := own_type h' v hv
  intro e
  rw [e, h2] at h1
  injection h1 with h1
  injection h1 with _ h1 _
  exact ht h1.symm
theorem kept_row {w w' : World} {B : Nat} {t : TypeId} {k n m c : Nat} {a : Option Addr} {xs : List Value} {r : Option Nat} (h : w.ownsRow B t k (.slice a m c) n xs) (g : w.grownBy w' r) (hne : ∀ ad : Addr, a = some ad → some ad.block ≠ r) : w'.ownsRow B t k (.slice a m c) n xs :=
  h.kept g (by
    cases a with
    | none => exact .inl rfl
    | some ad => exact .inr (hne ad rfl))
theorem Mid.pushx {wo W w' : World} {B : Nat} {k m : Int} {f : Bool} {nn : Int} {s : ByteArray} {bvx bvz : Value} {b1 b2 : Nat} {cs ds : Array Value} {ax az : Option Addr} {jx jz cx cz : Nat} {xs ys : List M} (h : Mid wo W B k m f nn s bvx bvz b1 b2 cs ds ax az jx jz cx cz xs ys) {y : M} {g' cap' : Nat}
    (ho : w'.ownsRow (B + 3) 29 6 (.slice (some ⟨g', 0, none⟩) (jx + 1) cap') (jx + 1) (mcells xs ++ y.cells)) (hg : W.grownBy w' (Value.slice ax jx cx).ownBlock) (hat : (Value.slice ax jx cx).ownBlock = some g' ∨ g' = W.heap.size) :
    Mid wo w' B k m f nn s bvx bvz b1 b2 cs ds (some ⟨g', 0, none⟩) az (jx + 1) jz cap' cz (xs ++ [y]) ys := by
  have hr : ∀ b, b < W.heap.size → (∀ ad : Addr, ax = some ad → ad.block ≠ b) → w'.heap[b]? = W.heap[b]? := fun b hb hne => hg.block b hb (fun e => by
    obtain ⟨ad, e1, e2⟩ := own_block e.symm
    exact hne ad e1 e2)
  have hlow : ∀ b, b < B + 3 → ∀ ad : Addr, ax = some ad → ad.block ≠ b := fun b hb ad e => by have := (own_type h.rx ad e).1; omega
  have l0 := lt_of_at h.bp
  have l1 := lt_of_at h.bx
  have l2 := lt_of_at h.bz
  have l3 := lt_of_at h.h1
  have l4 := lt_of_at h.h2
  refine ⟨h.hB, (hr _ l0 (hlow _ (by omega))).trans h.bp, (hr _ l1 (hlow _ (by omega))).trans h.bx, (hr _ l2 (hlow _ (by omega))).trans h.bz, (hr _ l3 (fun ad e => (h.nx ad e).1)).trans h.h1, (hr _ l4 (fun ad e => (h.nx ad e).2)).trans h.h2, by rw [mcells_snoc]; exact ho, kept_row h.rz hg (fun ad e e2 => ?_), h.fresh.grown hg (fun g e => ?_), fun ad e => ?_, h.nz⟩
  · obtain ⟨ad', e1, e3⟩ := own_block e2.symm
    exact own_parted h.rx h.rz (by decide) ad' ad e1 e e3
  · obtain ⟨ad', e1, e3⟩ := own_block e
    have := (own_type h.rx ad' e1).1
    rw [h.hB]; omega
  · cases e
    rcases hat with e | e
    · obtain ⟨ad', e1, e3⟩ := own_block e
      have := h.nx ad' e1
      rw [e3] at this; exact this
    · show g' ≠ b1 ∧ g' ≠ b2
      omega
theorem Mid.pushz {wo W w' : World} {B : Nat} {k m : Int} {f : Bool} {nn : Int} {s : ByteArray} {bvx bvz : Value} {b1 b2 : Nat} {cs ds : Array Value} {ax az : Option Addr} {jx jz cx cz : Nat} {xs ys : List M} (h : Mid wo W B k m f nn s bvx bvz b1 b2 cs ds ax az jx jz cx cz xs ys) {y : M} {g' cap' : Nat}
    (ho : w'.ownsRow (B + 3) 33 6 (.slice (some ⟨g', 0, none⟩) (jz + 1) cap') (jz + 1) (mcells ys ++ y.cells)) (hg : W.grownBy w' (Value.slice az jz cz).ownBlock) (hat : (Value.slice az jz cz).ownBlock = some g' ∨ g' = W.heap.size) :
    Mid wo w' B k m f nn s bvx bvz b1 b2 cs ds ax (some ⟨g', 0, none⟩) jx (jz + 1) cx cap' xs (ys ++ [y]) := by
  have hr : ∀ b, b < W.heap.size → (∀ ad : Addr, az = some ad → ad.block ≠ b) → w'.heap[b]? = W.heap[b]? := fun b hb hne => hg.block b hb (fun e => by
    obtain ⟨ad, e1, e2⟩ := own_block e.symm
    exact hne ad e1 e2)
  have hlow : ∀ b, b < B + 3 → ∀ ad : Addr, az = some ad → ad.block ≠ b := fun b hb ad e => by have := (own_type h.rz ad e).1; omega
  have l0 := lt_of_at h.bp
  have l1 := lt_of_at h.bx
  have l2 := lt_of_at h.bz
  have l3 := lt_of_at h.h1
  have l4 := lt_of_at h.h2
  refine ⟨h.hB, (hr _ l0 (hlow _ (by omega))).trans h.bp, (hr _ l1 (hlow _ (by omega))).trans h.bx, (hr _ l2 (hlow _ (by omega))).trans h.bz, (hr _ l3 (fun ad e => (h.nz ad e).1)).trans h.h1, (hr _ l4 (fun ad e => (h.nz ad e).2)).trans h.h2, kept_row h.rx hg (fun ad e e2 => ?_), by rw [mcells_snoc]; exact ho, h.fresh.grown hg (fun g e => ?_), h.nx, fun ad e => ?_⟩
  · obtain ⟨ad', e1, e3⟩ := own_block e2.symm
    exact own_parted h.rz h.rx (by decide) ad' ad e1 e e3
  · obtain ⟨ad', e1, e3⟩ := own_block e
    have := (own_type h.rz ad' e1).1
    rw [h.hB]; omega
  · cases e
    rcases hat with e | e
    · obtain ⟨ad', e1, e3⟩ := own_block e
      have := h.nz ad' e1
      rw [e3] at this; exact this
    · show g' ≠ b1 ∧ g' ≠ b2
      omega
/-- Another block stands, too. -/
theorem grown_at {W w' : World} {a : Option Addr} {n c b : Nat} {o : Obj} (hg : W.grownBy w' (Value.slice a n c).ownBlock) (hb : W.heap[b]? = some o) (hne : ∀ ad : Addr, a = some ad → ad.block ≠ b) : w'.heap[b]? = some o :=
  (hg.block b (lt_of_at hb) (fun e => by
    obtain ⟨ad, e1, e2⟩ := own_block e.symm
    exact hne ad e1 e2)).trans hb
end Go.Proofs.YtonakfkiidhebaaDoor
