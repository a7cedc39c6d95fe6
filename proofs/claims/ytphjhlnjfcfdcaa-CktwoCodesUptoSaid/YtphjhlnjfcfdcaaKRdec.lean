/-
  The state of version 1 of bytes, by the document.
-/
import Derived.Test.YtphjhlnjfcfdcaaKDec
import Derived.Test.YtphjhlnjfcfdcaaKRcheck
import Derived.Test.YtphjhlnjfcfdcaaRTail
namespace Go.Proofs.Ytphjhlnjfcfdcaa
open Go.ChangeShapes Go.WideShapes Go.ChangeAt Go.RowKit
set_option maxRecDepth 100000

theorem rtext_at {s s1 x : ByteArray} {e e1 : Int} (w : World) (hs : s.size ≤ maxLen) (h : textT s e = (s1, e1, x)) :
    Calls Try.prog 51 #[.agg #[.string s, .int .i64 e]] w fun r w' => r = .returned (.tuple #[.agg #[.string s1, .int .i64 e1], .string x]) ∧ Fresh w w' := by
  have := rtextT_any s e w hs
  rw [h] at this
  exact this
theorem info2 : (Try.prog.info? 67).map (fun i => (i.zero, i.size, i.bytes)) = some (some (.agg #[.string ⟨#[]⟩, .string ⟨#[]⟩, .string ⟨#[]⟩, .int .u8 0]), 4, 56) := by kernel_rfl
/-- The boxes of the document's Decode, and what it has come to. -/
structure DS (w W : World) (z y : Nat) (s : ByteArray) (e q : Int) (o : Option Addr) (k c : Nat) (D : List P1) : Prop where
  hz : z = w.heap.size
  h1 : z + 1 < y
  r : W.heap[z]? = some (.cells #[.int .u32 0, .slice none 0 0] 30)
  t : W.heap[z + 1]? = some (.cells #[.string s, .int .i64 e] 89)
  st : W.heap[y]? = some (.cells #[.int .u32 q, .slice o k c] 30)
  row : W.ownsRow (y + 1) 67 4 (.slice o k c) k (p1s D)
  fr : Fresh w W
/-- .. and the pod that it takes. -/
structure DP (w W : World) (z y pb : Nat) (s : ByteArray) (e q : Int) (o : Option Addr) (k c : Nat) (D : List P1) (x1 x2 x3 : ByteArray) (v : Int) : Prop extends DS w W z y s e q o k c D where
  h2 : y < pb
  p : W.heap[pb]? = some (.cells #[.string x1, .string x2, .string x3, .int .u8 v] 67)
  ne : ∀ g, (Value.slice o k c).ownBlock = some g → g ≠ pb
theorem DS.fresh {w W W' : World} {z y : Nat} {s : ByteArray} {e q : Int} {o : Option Addr} {k c : Nat} {D : List P1} (h : DS w W z y s e q o k c D) (f : Fresh W W') : DS w W' z y s e q o k c D :=
  ⟨h.hz, h.h1, f.at h.r, f.at h.t, f.at h.st, own_fresh h.row f, h.fr.trans f⟩
theorem DP.fresh {w W W' : World} {z y pb : Nat} {s : ByteArray} {e q : Int} {o : Option Addr} {k c : Nat} {D : List P1} {x1 x2 x3 : ByteArray} {v : Int} (h : DP w W z y pb s e q o k c D x1 x2 x3 v) (f : Fresh W W') : DP w W' z y pb s e q o k c D x1 x2 x3 v :=
  ⟨h.toDS.fresh f, h.h2, f.at h.p, h.ne⟩
theorem DS.setT {w W : World} {z y : Nat} {s : ByteArray} {e q : Int} {o : Option Addr} {k c : Nat} {D : List P1} (h : DS w W z y s e q o k c D) (s' : ByteArray) (e' : Int) : DS w ((W.setCell ⟨z + 1, 0, none⟩ (.string s')).setCell ⟨z + 1, 1, none⟩ (.int .i64 e')) z y s' e' q o k c D := by
  have hh := h.h1
  refine ⟨h.hz, h.h1, at_off (at_off h.r (by omega) _) (by omega) _, ?_, at_off (at_off h.st (by omega) _) (by omega) _, ?_, ?_⟩
  · have := at_set (at_set h.t 0 (.string s')) 1 (.int .i64 e')
    exact this
  · exact own_set (p := ⟨z + 1, 1, none⟩) (own_set (p := ⟨z + 1, 0, none⟩) h.row (by show z + 1 < y + 1; omega) _) (by show z + 1 < y + 1; omega) _
  · exact (h.fr.setCell (p := ⟨z + 1, 0, none⟩) (by show w.heap.size ≤ z + 1; rw [h.hz]; omega) _).setCell (p := ⟨z + 1, 1, none⟩) (by show w.heap.size ≤ z + 1; rw [h.hz]; omega) _
theorem DP.setT {w W : World} {z y pb : Nat} {s : ByteArray} {e q : Int} {o : Option Addr} {k c : Nat} {D : List P1} {x1 x2 x3 : ByteArray} {v : Int} (h : DP w W z y pb s e q o k c D x1 x2 x3 v) (s' : ByteArray) (e' : Int) : DP w ((W.setCell ⟨z + 1, 0, none⟩ (.string s')).setCell ⟨z + 1, 1, none⟩ (.int .i64 e')) z y pb s' e' q o k c D x1 x2 x3 v := by
  have h1 := h.h1
  have h2 := h.h2
  exact ⟨h.toDS.setT s' e', h.h2, at_off (at_off h.p (by omega) _) (by omega) _, h.ne⟩
theorem DP.keepS {w W : World} {z y pb : Nat} {s : ByteArray} {e q : Int} {o : Option Addr} {k c : Nat} {D : List P1} {x1 x2 x3 : ByteArray} {v : Int} (h : DP w W z y pb s e q o k c D x1 x2 x3 v) (i : Nat) (u : Value) : DS w (W.setCell ⟨pb, i, none⟩ u) z y s e q o k c D := by
  have h1 := h.h1
  have h2 := h.h2
  refine ⟨h.hz, h.h1, at_off h.r (by omega) _, at_off h.t (by omega) _, at_off h.st (by omega) _, ?_, ?_⟩
  · refine World.ownsRow.kept h.row (grown_set W pb i u) ?_
    rcases h' : (Value.slice o k c).ownBlock with _ | g
    · exact .inl rfl
    · exact .inr (fun e2 => h.ne g h' (by simpa using e2))
  · exact h.fr.setCell (p := ⟨pb, i, none⟩) (by show w.heap.size ≤ pb; rw [← h.hz]; omega) _
theorem DP.set0 {w W : World} {z y pb : Nat} {s : ByteArray} {e q : Int} {o : Option Addr} {k c : Nat} {D : List P1} {x1 x2 x3 : ByteArray} {v : Int} (h : DP w W z y pb s e q o k c D x1 x2 x3 v) (x : ByteArray) : DP w (W.setCell ⟨pb, 0, none⟩ (.string x)) z y pb s e q o k c D x x2 x3 v :=
  ⟨h.keepS _ _, h.h2, at_set h.p 0 _, h.ne⟩
theorem DP.set1 {w W : World} {z y pb : Nat} {s : ByteArray} {e q : Int} {o : Option Addr} {k c : Nat} {D : List P1} {x1 x2 x3 : ByteArray} {v : Int} (h : DP w W z y pb s e q o k c D x1 x2 x3 v) (x : ByteArray) : DP w (W.setCell ⟨pb, 1, none⟩ (.string x)) z y pb s e q o k c D x1 x x3 v :=
  ⟨h.keepS _ _, h.h2, at_set h.p 1 _, h.ne⟩
theorem DP.set2 {w W : World} {z y pb : Nat} {s : ByteArray} {e q : Int} {o : Option Addr} {k c : Nat} {D : List P1} {x1 x2 x3 : ByteArray} {v : Int} (h : DP w W z y pb s e q o k c D x1 x2 x3 v) (x : ByteArray) : DP w (W.setCell ⟨pb, 2, none⟩ (.string x)) z y pb s e q o k c D x1 x2 x v :=
  ⟨h.keepS _ _, h.h2, at_set h.p 2 _, h.ne⟩
theorem DP.set3 {w W : World} {z y pb : Nat} {s : ByteArray} {e q : Int} {o : Option Addr} {k c : Nat} {D : List P1} {x1 x2 x3 : ByteArray} {v : Int} (h : DP w W z y pb s e q o k c D x1 x2 x3 v) (x : Int) : DP w (W.setCell ⟨pb, 3, none⟩ (.int .u8 x)) z y pb s e q o k c D x1 x2 x3 x :=
  ⟨h.keepS _ _, h.h2, at_set h.p 3 _, h.ne⟩
theorem DS.pod {w W : World} {z y : Nat} {s : ByteArray} {e q : Int} {o : Option Addr} {k c : Nat} {D : List P1} (h : DS w W z y s e q o k c D) : DP w (W.alloc (.cells #[.string ⟨#[]⟩, .string ⟨#[]⟩, .string ⟨#[]⟩, .int .u8 0] 67)) z y W.heap.size s e q o k c D ⟨#[]⟩ ⟨#[]⟩ ⟨#[]⟩ 0 :=
  ⟨h.fresh ((Fresh.refl W).alloc _), lt_of_at h.st, at_new _ _, fun g e => by have := (World.ownsRow.lt h.row g e).2; omega⟩
/-- The taker's two cells. -/
theorem DS.tc {w W : World} {z y : Nat} {s : ByteArray} {e q : Int} {o : Option Addr} {k c : Nat} {D : List P1} (h : DS w W z y s e q o k c D) : W.cell? ⟨z + 1, 0, none⟩ = some (.string s) ∧ W.cell? ⟨z + 1, 1, none⟩ = some (.int .i64 e) ∧ W.frozen? ⟨z + 1, 0, none⟩ = false ∧ W.frozen? ⟨z + 1, 1, none⟩ = false :=
  ⟨cell_of_at h.t rfl, cell_of_at h.t rfl, frozen_of_at h.t 0, frozen_of_at h.t 1⟩
theorem DP.pc {w W : World} {z y pb : Nat} {s : ByteArray} {e q : Int} {o : Option Addr} {k c : Nat} {D : List P1} {x1 x2 x3 : ByteArray} {v : Int} (h : DP w W z y pb s e q o k c D x1 x2 x3 v) :
    (W.cell? ⟨pb, 0, none⟩ = some (.string x1) ∧ W.cell? ⟨pb, 1, none⟩ = some (.string x2) ∧ W.cell? ⟨pb, 2, none⟩ = some (.string x3) ∧ W.cell? ⟨pb, 3, none⟩ = some (.int .u8 v)) ∧ W.frozen? ⟨pb, 0, none⟩ = false ∧ W.frozen? ⟨pb, 1, none⟩ = false ∧ W.frozen? ⟨pb, 2, none⟩ = false ∧ W.frozen? ⟨pb, 3, none⟩ = false :=
  ⟨⟨cell_of_at h.p rfl, cell_of_at h.p rfl, cell_of_at h.p rfl, cell_of_at h.p rfl⟩, frozen_of_at h.p 0, frozen_of_at h.p 1, frozen_of_at h.p 2, frozen_of_at h.p 3⟩
end Go.Proofs.Ytphjhlnjfcfdcaa
