/-
  What the document's own TakeFlag, TakeText and End (package bosunref02) come to: for every Taker whose text is of a length that Go allows; nothing that was there turns.
  The state of version 1 of bytes, by the document.
  The boxes of the document's Decode for version 2.
  A state of version 2, as the document has it: the same texts and numbers, in rows of its own.
  Few pods, and short texts: what bosunlaw18.Small says of any state that came in, its sum as the machine has it.
-/
import Derived.Test.YtphjhlnjfcfdcaaCat06
import Derived.RegionTactic
import Derived.Test.YtphjhlnjfcfdcaaCat05
import Derived.Test.YtphjhlnjfcfdcaaCat02
namespace Go.Proofs.Ytphjhlnjfcfdcaa
open Go.ChangeShapes Go.WideShapes Go.ChangeAt Go.RowKit
set_option maxRecDepth 100000
theorem rtake_at {s s1 : ByteArray} {e n e1 v : Int} (w : World) (hs : s.size ≤ maxLen) (h : takeT s e n = (s1, e1, v)) :
    Calls Try.prog 50 #[.agg #[.string s, .int .i64 e], .int .i64 n] w fun r w' => r = .returned (.tuple #[.agg #[.string s1, .int .i64 e1], .int .u64 v]) ∧ Fresh w w' := by
  have := rtake_any s e n w hs
  rw [h] at this
  exact this
theorem take_err {s s1 : ByteArray} {e n e1 v : Int} (h : takeT s e n = (s1, e1, v)) (hv : v ≠ 0) : e1 = 0 := by
  unfold takeT at h
  split at h
  · simp at h; omega
  split at h
  · simp at h; omega
  split at h
  · simp at h; omega
  · simp only [Prod.mk.injEq] at h; omega
theorem cell_past {w w' : World} (h : Fresh w w') {b o : Nat} (hb : b < w.heap.size) : w'.cell? ⟨b, o, none⟩ = w.cell? ⟨b, o, none⟩ := Below.cell h (p := ⟨b, o, none⟩) hb
theorem frozen_past {w w' : World} (h : Fresh w w') {b o : Nat} (hb : b < w.heap.size) : w'.frozen? ⟨b, o, none⟩ = w.frozen? ⟨b, o, none⟩ := Below.frozen h (p := ⟨b, o, none⟩) hb
/-- Two boxes that a call has laid, read behind another call. -/
structure Boxes (w w1 : World) (a0 a1 b0 b1 : Value) : Prop where
  c10 : w1.cell? ⟨w.heap.size, 0, none⟩ = some a0
  c11 : w1.cell? ⟨w.heap.size, 1, none⟩ = some a1
  c20 : w1.cell? ⟨w.heap.size + 1, 0, none⟩ = some b0
  c21 : w1.cell? ⟨w.heap.size + 1, 1, none⟩ = some b1
  f10 : w1.frozen? ⟨w.heap.size, 0, none⟩ = false
  f11 : w1.frozen? ⟨w.heap.size, 1, none⟩ = false
  f20 : w1.frozen? ⟨w.heap.size + 1, 0, none⟩ = false
  f21 : w1.frozen? ⟨w.heap.size + 1, 1, none⟩ = false
  z0 : w.heap.size < w1.heap.size
  z1 : w.heap.size + 1 < w1.heap.size
  fresh : Fresh w w1
theorem boxes {w w1 : World} {a0 a1 b0 b1 : Value} (hg : Fresh ((w.alloc (.cells #[a0, a1] 89)).alloc (.cells #[b0, b1] 89)) w1) : Boxes w w1 a0 a1 b0 b1 := by
  have c10 := cell_past hg (b := w.heap.size) (o := 0) (by simp; omega)
  have c11 := cell_past hg (b := w.heap.size) (o := 1) (by simp; omega)
  have c20 := cell_past hg (b := w.heap.size + 1) (o := 0) (by simp)
  have c21 := cell_past hg (b := w.heap.size + 1) (o := 1) (by simp)
  have f10 := frozen_past hg (b := w.heap.size) (o := 0) (by simp; omega)
  have f11 := frozen_past hg (b := w.heap.size) (o := 1) (by simp; omega)
  have f20 := frozen_past hg (b := w.heap.size + 1) (o := 0) (by simp)
  have f21 := frozen_past hg (b := w.heap.size + 1) (o := 1) (by simp)
  simp [go_sem] at c10 c11 c20 c21 f10 f11 f20 f21
  have hz : w.heap.size + 1 < w1.heap.size := by have := hg.size; simp at this; omega
  exact ⟨c10, c11, c20, c21, f10, f11, f20, f21, by omega, hz, (((Fresh.refl _).alloc _).alloc _).trans hg⟩
set_option maxRecDepth 100000 in
set_option maxHeartbeats 2000000 in
theorem rtextT_any (s : ByteArray) (e : Int) (w : World) (hs : s.size ≤ maxLen) :
    Calls Try.prog 51 #[.agg #[.string s, .int .i64 e]] w fun r w' => r = .returned (.tuple #[.agg #[.string (textT s e).1, .int .i64 (textT s e).2.1], .string (textT s e).2.2]) ∧ Fresh w w' := by
  have hv := take_val s e 2
  obtain ⟨s1, e1, v, hT⟩ : ∃ s1 e1 v, takeT s e 2 = (s1, e1, v) := ⟨_, _, _, rfl⟩
  rw [show ((2 : Nat) : Int) = 2 from rfl, hT] at hv
  obtain ⟨hv0, hv1⟩ : 0 ≤ v ∧ v < 65536 := hv
  have hl := take_len hT
  have hF : textT s e = if e1 ≠ 0 then (s1, e1, ⟨#[]⟩) else if 4096 < v then (s, 2, ⟨#[]⟩) else if (s1.size : Int) < v then (s, 1, ⟨#[]⟩) else (s1.extract v.toNat s1.size, 0, s1.extract 0 v.toNat) := by simp only [textT, hT]
  have HT := Lib.hid hT
  have hs' := hs
  unfold maxLen at hs'
  obtain ⟨n, rfl⟩ := Int.eq_ofNat_of_zero_le hv0
  clear hT
  by_cases h1 : e1 = 0
  · subst h1
    rw [if_neg (by simp)] at hF
    by_cases h2 : 4096 < (n : Int)
    · rw [hF, if_pos h2]
      clear hF
      go_enter Try.func51, Try.ntmps51
      go_wp2_with fail
      refine (rtake_at _ hs HT.out).mono ?_
      rintro r w1 ⟨rfl, hg⟩
      obtain ⟨c10, c11, c20, c21, f10, f11, f20, f21, z0, z1, hfr⟩ := boxes hg
      clear hg
      go_wp2
      exact bodyPost_ret (v := .tuple #[.agg #[.string s, .int .i64 2], .string ⟨#[]⟩]) (by simp [results, Try.results51, go_sem, c20, c21, z1]) rfl ⟨rfl, (((hfr.setCell (by simp) _).setCell (by simp) _).setCell (by simp) _).alloc _⟩
    · rw [if_neg h2] at hF
      have h2' : n ≤ 4096 := by omega
      clear hv0 hv1 h2
      by_cases h3 : (s1.size : Int) < n
      · rw [hF, if_pos h3]
        have h3' : s1.size < n := by omega
        clear hF h3
        go_enter Try.func51, Try.ntmps51
        go_wp2_with fail
        refine (rtake_at _ hs HT.out).mono ?_
        rintro r w1 ⟨rfl, hg⟩
        obtain ⟨c10, c11, c20, c21, f10, f11, f20, f21, z0, z1, hfr⟩ := boxes hg
        clear hg
        go_wp2
        exact bodyPost_ret (v := .tuple #[.agg #[.string s, .int .i64 1], .string ⟨#[]⟩]) (by simp [results, Try.results51, go_sem, c20, c21, z1]) rfl ⟨rfl, (((hfr.setCell (by simp) _).setCell (by simp) _).setCell (by simp) _).alloc _⟩
      · rw [hF, if_neg h3]
        have hle : n ≤ s1.size := by omega
        clear hF h3
        go_enter Try.func51, Try.ntmps51
        go_wp2_with fail
        refine (rtake_at _ hs HT.out).mono ?_
        rintro r w1 ⟨rfl, hg⟩
        obtain ⟨c10, c11, c20, c21, f10, f11, f20, f21, z0, z1, hfr⟩ := boxes hg
        clear hg
        go_wp2
        go_region
        all_goals
          go_wp2
          exact bodyPost_ret (v := .tuple #[.agg #[.string (s1.extract n s1.size), .int .i64 0], .string (s1.extract 0 n)]) (by simp [results, Try.results51, go_sem, c20, c21, z1]) rfl ⟨rfl, (((hfr.setCell (by simp) _).setCell (by simp) _).alloc _).drew⟩
  · rw [hF, if_pos h1]
    have hne : (e1 != 0) = true := by simpa using h1
    clear hF h1
    go_enter Try.func51, Try.ntmps51
    go_wp2_with fail
    refine (rtake_at _ hs HT.out).mono ?_
    rintro r w1 ⟨rfl, hg⟩
    obtain ⟨c10, c11, c20, c21, f10, f11, f20, f21, z0, z1, hfr⟩ := boxes hg
    clear hg
    go_wp2
    exact bodyPost_ret (v := .tuple #[.agg #[.string s1, .int .i64 e1], .string ⟨#[]⟩]) (by simp [results, Try.results51, go_sem, c20, c21, z1]) rfl ⟨rfl, ((hfr.setCell (by simp) _).setCell (by simp) _).alloc _⟩
theorem rend_any (s : ByteArray) (e : Int) (w : World) :
    Calls Try.prog 52 #[.agg #[.string s, .int .i64 e]] w fun r w' => r = .returned (.int .i64 (endT s e)) ∧ Fresh w w' := by
  by_cases h : e = 0
  · subst h
    by_cases h2 : s.size = 0
    · obtain rfl : s = ⟨#[]⟩ := ByteArray.ext (Array.eq_empty_of_size_eq_zero h2)
      clear h2
      go_enter Try.func52, Try.ntmps52
      go_wp2
      go_ret
      exact ⟨rfl, (Fresh.refl _).alloc _⟩
    · have HF : Hid (endT s 0 = 6) := by unfold endT; rw [if_pos ⟨rfl, h2⟩]; exact rfl
      have hb : s.toList.isEmpty = false := toList_some h2
      go_enter Try.func52, Try.ntmps52
      go_wp2
      go_ret
      exact ⟨by rw [HF.out]; rfl, (Fresh.refl _).alloc _⟩
  · have HF : Hid (endT s e = e) := by unfold endT; rw [if_neg (fun k => h k.1)]; exact rfl
    have hne : (e == 0) = false := by simpa using h
    go_enter Try.func52, Try.ntmps52
    go_wp2
    go_ret
    exact ⟨by rw [HF.out]; rfl, (Fresh.refl _).alloc _⟩
end Go.Proofs.Ytphjhlnjfcfdcaa
namespace Go.Proofs.Ytphjhlnjfcfdcaa
open Go.ChangeShapes Go.WideShapes Go.ChangeAt Go.RowKit
set_option maxRecDepth 100000

theorem rtext_at {s s1 x : ByteArray} {e e1 : Int} (w : World) (hs : s.size ≤ maxLen) (h : textT s e = (s1, e1, x)) :
    Calls Try.prog 51 #[.agg #[.string s, .int .i64 e]] w fun r w' => r = .returned (.tuple #[.agg #[.string s1, .int .i64 e1], .string x]) ∧ Fresh w w' := by
  have := rtextT_any s e w hs
  rw [h] at this
  exact this
theorem info2 : (Try.prog.info? 67).map (fun i => (i.zero, i.size, i.bytes)) = some (some (.agg #[.string ⟨#[]⟩, .string ⟨#[]⟩, .string ⟨#[]⟩, .int .u8 0]), 4, 56) := by kernel_rfl
/-- The boxes of the document's Decode, and what it has come to. -/
structure DS (w W : World) (z y : Nat) (s : ByteArray) (e q : Int) (o : Option Addr) (k c : Nat) (D : List P1) : Prop where
  hz : z = w.heap.size
  h1 : z + 1 < y
  r : W.heap[z]? = some (.cells #[.int .u32 0, .slice none 0 0] 30)
  t : W.heap[z + 1]? = some (.cells #[.string s, .int .i64 e] 89)
  st : W.heap[y]? = some (.cells #[.int .u32 q, .slice o k c] 30)
  row : W.ownsRow (y + 1) 67 4 (.slice o k c) k (p1s D)
  fr : Fresh w W
/-- .. and the pod that it takes. -/
structure DP (w W : World) (z y pb : Nat) (s : ByteArray) (e q : Int) (o : Option Addr) (k c : Nat) (D : List P1) (x1 x2 x3 : ByteArray) (v : Int) : Prop extends DS w W z y s e q o k c D where
  h2 : y < pb
  p : W.heap[pb]? = some (.cells #[.string x1, .string x2, .string x3, .int .u8 v] 67)
  ne : ∀ g, (Value.slice o k c).ownBlock = some g → g ≠ pb
theorem DS.fresh {w W W' : World} {z y : Nat} {s : ByteArray} {e q : Int} {o : Option Addr} {k c : Nat} {D : List P1} (h : DS w W z y s e q o k c D) (f : Fresh W W') : DS w W' z y s e q o k c D :=
  ⟨h.hz, h.h1, f.at h.r, f.at h.t, f.at h.st, own_fresh h.row f, h.fr.trans f⟩
theorem DP.fresh {w W W' : World} {z y pb : Nat} {s : ByteArray} {e q : Int} {o : Option Addr} {k c : Nat} {D : List P1} {x1 x2 x3 : ByteArray} {v : Int} (h : DP w W z y pb s e q o k c D x1 x2 x3 v) (f : Fresh W W') : DP w W' z y pb s e q o k c D x1 x2 x3 v :=
  ⟨h.toDS.fresh f, h.h2, f.at h.p, h.ne⟩
theorem DS.setT {w W : World} {z y : Nat} {s : ByteArray} {e q : Int} {o : Option Addr} {k c : Nat} {D : List P1} (h : DS w W z y s e q o k c D) (s' : ByteArray) (e' : Int) : DS w ((W.setCell ⟨z + 1, 0, none⟩ (.string s')).setCell ⟨z + 1, 1, none⟩ (.int .i64 e')) z y s' e' q o k c D := by
  have hh := h.h1
  refine ⟨h.hz, h.h1, at_off (at_off h.r (by omega) _) (by omega) _, ?_, at_off (at_off h.st (by omega) _) (by omega) _, ?_, ?_⟩
  · have := at_set (at_set h.t 0 (.string s')) 1 (.int .i64 e')
    exact this
  · exact own_set (p := ⟨z + 1, 1, none⟩) (own_set (p := ⟨z + 1, 0, none⟩) h.row (by show z + 1 < y + 1; omega) _) (by show z + 1 < y + 1; omega) _
  · exact (h.fr.setCell (p := ⟨z + 1, 0, none⟩) (by show w.heap.size ≤ z + 1; rw [h.hz]; omega) _).setCell (p := ⟨z + 1, 1, none⟩) (by show w.heap.size ≤ z + 1; rw [h.hz]; omega) _
theorem DP.setT {w W : World} {z y pb : Nat} {s : ByteArray} {e q : Int} {o : Option Addr} {k c : Nat} {D : List P1} {x1 x2 x3 : ByteArray} {v : Int} (h : DP w W z y pb s e q o k c D x1 x2 x3 v) (s' : ByteArray) (e' : Int) : DP w ((W.setCell ⟨z + 1, 0, none⟩ (.string s')).setCell ⟨z + 1, 1, none⟩ (.int .i64 e')) z y pb s' e' q o k c D x1 x2 x3 v := by
  have h1 := h.h1
  have h2 := h.h2
  exact ⟨h.toDS.setT s' e', h.h2, at_off (at_off h.p (by omega) _) (by omega) _, h.ne⟩
theorem DP.keepS {w W : World} {z y pb : Nat} {s : ByteArray} {e q : Int} {o : Option Addr} {k c : Nat} {D : List P1} {x1 x2 x3 : ByteArray} {v : Int} (h : DP w W z y pb s e q o k c D x1 x2 x3 v) (i : Nat) (u : Value) : DS w (W.setCell ⟨pb, i, none⟩ u) z y s e q o k c D := by
  have h1 := h.h1
  have h2 := h.h2
  refine ⟨h.hz, h.h1, at_off h.r (by omega) _, at_off h.t (by omega) _, at_off h.st (by omega) _, ?_, ?_⟩
  · refine World.ownsRow.kept h.row (grown_set W pb i u) ?_
    rcases h' : (Value.slice o k c).ownBlock with _ | g
    · exact .inl rfl
    · exact .inr (fun e2 => h.ne g h' (by simpa using e2))
  · exact h.fr.setCell (p := ⟨pb, i, none⟩) (by show w.heap.size ≤ pb; rw [← h.hz]; omega) _
theorem DP.set0 {w W : World} {z y pb : Nat} {s : ByteArray} {e q : Int} {o : Option Addr} {k c : Nat} {D : List P1} {x1 x2 x3 : ByteArray} {v : Int} (h : DP w W z y pb s e q o k c D x1 x2 x3 v) (x : ByteArray) : DP w (W.setCell ⟨pb, 0, none⟩ (.string x)) z y pb s e q o k c D x x2 x3 v :=
  ⟨h.keepS _ _, h.h2, at_set h.p 0 _, h.ne⟩
theorem DP.set1 {w W : World} {z y pb : Nat} {s : ByteArray} {e q : Int} {o : Option Addr} {k c : Nat} {D : List P1} {x1 x2 x3 : ByteArray} {v : Int} (h : DP w W z y pb s e q o k c D x1 x2 x3 v) (x : ByteArray) : DP w (W.setCell ⟨pb, 1, none⟩ (.string x)) z y pb s e q o k c D x1 x x3 v :=
  ⟨h.keepS _ _, h.h2, at_set h.p 1 _, h.ne⟩
theorem DP.set2 {w W : World} {z y pb : Nat} {s : ByteArray} {e q : Int} {o : Option Addr} {k c : Nat} {D : List P1} {x1 x2 x3 : ByteArray} {v : Int} (h : DP w W z y pb s e q o k c D x1 x2 x3 v) (x : ByteArray) : DP w (W.setCell ⟨pb, 2, none⟩ (.string x)) z y pb s e q o k c D x1 x2 x v :=
  ⟨h.keepS _ _, h.h2, at_set h.p 2 _, h.ne⟩
theorem DP.set3 {w W : World} {z y pb : Nat} {s : ByteArray} {e q : Int} {o : Option Addr} {k c : Nat} {D : List P1} {x1 x2 x3 : ByteArray} {v : Int} (h : DP w W z y pb s e q o k c D x1 x2 x3 v) (x : Int) : DP w (W.setCell ⟨pb, 3, none⟩ (.int .u8 x)) z y pb s e q o k c D x1 x2 x3 x :=
  ⟨h.keepS _ _, h.h2, at_set h.p 3 _, h.ne⟩
theorem DS.pod {w W : World} {z y : Nat} {s : ByteArray} {e q : Int} {o : Option Addr} {k c : Nat} {D : List P1} (h : DS w W z y s e q o k c D) : DP w (W.alloc (.cells #[.string ⟨#[]⟩, .string ⟨#[]⟩, .string ⟨#[]⟩, .int .u8 0] 67)) z y W.heap.size s e q o k c D ⟨#[]⟩ ⟨#[]⟩ ⟨#[]⟩ 0 :=
  ⟨h.fresh ((Fresh.refl W).alloc _), lt_of_at h.st, at_new _ _, fun g e => by have := (World.ownsRow.lt h.row g e).2; omega⟩
/-- The taker's two cells. -/
theorem DS.tc {w W : World} {z y : Nat} {s : ByteArray} {e q : Int} {o : Option Addr} {k c : Nat} {D : List P1} (h : DS w W z y s e q o k c D) : W.cell? ⟨z + 1, 0, none⟩ = some (.string s) ∧ W.cell? ⟨z + 1, 1, none⟩ = some (.int .i64 e) ∧ W.frozen? ⟨z + 1, 0, none⟩ = false ∧ W.frozen? ⟨z + 1, 1, none⟩ = false :=
  ⟨cell_of_at h.t rfl, cell_of_at h.t rfl, frozen_of_at h.t 0, frozen_of_at h.t 1⟩
theorem DP.pc {w W : World} {z y pb : Nat} {s : ByteArray} {e q : Int} {o : Option Addr} {k c : Nat} {D : List P1} {x1 x2 x3 : ByteArray} {v : Int} (h : DP w W z y pb s e q o k c D x1 x2 x3 v) :
    (W.cell? ⟨pb, 0, none⟩ = some (.string x1) ∧ W.cell? ⟨pb, 1, none⟩ = some (.string x2) ∧ W.cell? ⟨pb, 2, none⟩ = some (.string x3) ∧ W.cell? ⟨pb, 3, none⟩ = some (.int .u8 v)) ∧ W.frozen? ⟨pb, 0, none⟩ = false ∧ W.frozen? ⟨pb, 1, none⟩ = false ∧ W.frozen? ⟨pb, 2, none⟩ = false ∧ W.frozen? ⟨pb, 3, none⟩ = false :=
  ⟨⟨cell_of_at h.p rfl, cell_of_at h.p rfl, cell_of_at h.p rfl, cell_of_at h.p rfl⟩, frozen_of_at h.p 0, frozen_of_at h.p 1, frozen_of_at h.p 2, frozen_of_at h.p 3⟩
end Go.Proofs.Ytphjhlnjfcfdcaa
namespace Go.Proofs.Ytphjhlnjfcfdcaa
open Go.ChangeShapes Go.WideShapes Go.ChangeAt Go.RowKit
set_option maxRecDepth 100000

theorem infoRP2 : (Try.prog.info? 103).map (fun i => (i.zero, i.size, i.bytes)) = some (some (.agg #[.string ⟨#[]⟩, .string ⟨#[]⟩, .string ⟨#[]⟩, .int .u8 0, .int .u16 0, .slice none 0 0]), 6, 80) := by kernel_rfl
theorem infoRC2 : (Try.prog.info? 104).map (fun i => (i.zero, i.size, i.bytes)) = some (some (.agg #[.string ⟨#[]⟩, .string ⟨#[]⟩]), 2, 32) := by kernel_rfl
/-- The boxes of the document's Decode, and what it has come to. -/
structure DS2 (w W : World) (z y : Nat) (s : ByteArray) (e q : Int) (o : Option Addr) (k c : Nat) (D : List M2) : Prop where
  hz : z = w.heap.size
  h1 : z + 1 < y
  r : W.heap[z]? = some (.cells #[.int .u64 0, .slice none 0 0] 53)
  t : W.heap[z + 1]? = some (.cells #[.string s, .int .i64 e] 89)
  st : W.heap[y]? = some (.cells #[.int .u64 q, .slice o k c] 53)
  row : W.ownsRow (y + 1) 103 6 (.slice o k c) k (m2s D)
  far : ∀ m ∈ D, m.Far (y + 1) (Value.slice o k c).ownBlock W
  fr : Fresh w W
/-- .. and the pod that it takes. -/
structure DP2 (w W : World) (z y pb : Nat) (s : ByteArray) (e q : Int) (o : Option Addr) (k c : Nat) (D : List M2) (pc : Array Value) (a : Option Addr) (n cc : Nat) (cs : List C2) : Prop extends DS2 w W z y s e q o k c D where
  h2 : y < pb
  p : W.heap[pb]? = some (.cells pc 103)
  lowR : ∀ g, (Value.slice o k c).ownBlock = some g → g < pb
  lowD : ∀ m ∈ D, ∀ ad : Addr, m.a = some ad → ad.block < pb
  crow : W.ownsRow (pb + 1) 104 2 (.slice a n cc) n (c2s cs)
/-- .. and the container. -/
structure DC2 (w W : World) (z y pb cb : Nat) (s : ByteArray) (e q : Int) (o : Option Addr) (k c : Nat) (D : List M2) (pc : Array Value) (a : Option Addr) (n cc : Nat) (cs : List C2) (xc : Array Value) : Prop extends DP2 w W z y pb s e q o k c D pc a n cc cs where
  h3 : pb < cb
  x : W.heap[cb]? = some (.cells xc 104)
  lowC : ∀ g, (Value.slice a n cc).ownBlock = some g → g < cb
section
variable {w W W' : World} {z y pb cb : Nat} {s : ByteArray} {e q : Int} {o : Option Addr} {k c : Nat} {D : List M2} {pc xc : Array Value} {a : Option Addr} {n cc : Nat} {cs : List C2}
theorem DS2.fresh (h : DS2 w W z y s e q o k c D) (f : Fresh W W') : DS2 w W' z y s e q o k c D :=
  ⟨h.hz, h.h1, f.at h.r, f.at h.t, f.at h.st, own_fresh h.row f, fun m hm => (h.far m hm).fresh f, h.fr.trans f⟩
theorem DP2.fresh (h : DP2 w W z y pb s e q o k c D pc a n cc cs) (f : Fresh W W') : DP2 w W' z y pb s e q o k c D pc a n cc cs :=
  ⟨h.toDS2.fresh f, h.h2, f.at h.p, h.lowR, h.lowD, own_fresh h.crow f⟩
theorem DC2.fresh (h : DC2 w W z y pb cb s e q o k c D pc a n cc cs xc) (f : Fresh W W') : DC2 w W' z y pb cb s e q o k c D pc a n cc cs xc :=
  ⟨h.toDP2.fresh f, h.h3, f.at h.x, h.lowC⟩
theorem DS2.setT (h : DS2 w W z y s e q o k c D) (s' : ByteArray) (e' : Int) : DS2 w ((W.setCell ⟨z + 1, 0, none⟩ (.string s')).setCell ⟨z + 1, 1, none⟩ (.int .i64 e')) z y s' e' q o k c D := by
  have hh := h.h1
  refine ⟨h.hz, h.h1, at_off (at_off h.r (by omega) _) (by omega) _, ?_, at_off (at_off h.st (by omega) _) (by omega) _, ?_, fun m hm => ((h.far m hm).set (by omega)).set (by omega), ?_⟩
  · exact at_set (at_set h.t 0 (.string s')) 1 (.int .i64 e')
  · exact own_set (p := ⟨z + 1, 1, none⟩) (own_set (p := ⟨z + 1, 0, none⟩) h.row (by show z + 1 < y + 1; omega) _) (by show z + 1 < y + 1; omega) _
  · exact (h.fr.setCell (p := ⟨z + 1, 0, none⟩) (by show w.heap.size ≤ z + 1; rw [h.hz]; omega) _).setCell (p := ⟨z + 1, 1, none⟩) (by show w.heap.size ≤ z + 1; rw [h.hz]; omega) _
theorem DP2.setT (h : DP2 w W z y pb s e q o k c D pc a n cc cs) (s' : ByteArray) (e' : Int) : DP2 w ((W.setCell ⟨z + 1, 0, none⟩ (.string s')).setCell ⟨z + 1, 1, none⟩ (.int .i64 e')) z y pb s' e' q o k c D pc a n cc cs := by
  have h1 := h.h1
  have h2 := h.h2
  exact ⟨h.toDS2.setT s' e', h.h2, at_off (at_off h.p (by omega) _) (by omega) _, h.lowR, h.lowD, own_set (p := ⟨z + 1, 1, none⟩) (own_set (p := ⟨z + 1, 0, none⟩) h.crow (by show z + 1 < pb + 1; omega) _) (by show z + 1 < pb + 1; omega) _⟩
theorem DC2.setT (h : DC2 w W z y pb cb s e q o k c D pc a n cc cs xc) (s' : ByteArray) (e' : Int) : DC2 w ((W.setCell ⟨z + 1, 0, none⟩ (.string s')).setCell ⟨z + 1, 1, none⟩ (.int .i64 e')) z y pb cb s' e' q o k c D pc a n cc cs xc := by
  have h1 := h.h1
  have h2 := h.h2
  have h3 := h.h3
  exact ⟨h.toDP2.setT s' e', h.h3, at_off (at_off h.x (by omega) _) (by omega) _, h.lowC⟩
/-- A cell of a box above all that is kept. -/
theorem DS2.off (h : DS2 w W z y s e q o k c D) {b i : Nat} (hb : y < b) (h1 : ∀ g, (Value.slice o k c).ownBlock = some g → g ≠ b) (h2 : ∀ m ∈ D, ∀ ad : Addr, m.a = some ad → ad.block ≠ b) (u : Value) : DS2 w (W.setCell ⟨b, i, none⟩ u) z y s e q o k c D := by
  have hh := h.h1
  refine ⟨h.hz, h.h1, at_off h.r (by omega) _, at_off h.t (by omega) _, at_off h.st (by omega) _, ?_, fun m hm => ?_, ?_⟩
  · refine World.ownsRow.kept h.row (grown_set W b i u) ?_
    rcases h' : (Value.slice o k c).ownBlock with _ | g
    · exact .inl rfl
    · exact .inr (fun e2 => h1 g h' (by simpa using e2))
  · have hf := h.far m hm
    exact ⟨⟨hf.1.1.set (p := ⟨b, i, none⟩) (h2 m hm) u, hf.1.2⟩, fun ad e => ⟨(hf.2 ad e).1, by rw [World.size_setCell]; exact (hf.2 ad e).2.1, (hf.2 ad e).2.2⟩⟩
  · exact h.fr.setCell (p := ⟨b, i, none⟩) (by show w.heap.size ≤ b; rw [← h.hz]; omega) _
theorem DP2.setP (h : DP2 w W z y pb s e q o k c D pc a n cc cs) (i : Nat) (u : Value) : DP2 w (W.setCell ⟨pb, i, none⟩ u) z y pb s e q o k c D (pc.setIfInBounds i u) a n cc cs :=
  ⟨h.toDS2.off h.h2 (fun g e => by have := h.lowR g e; omega) (fun m hm ad e => by have := h.lowD m hm ad e; omega) u, h.h2, at_set h.p i u, h.lowR, h.lowD, own_set (p := ⟨pb, i, none⟩) h.crow (by show pb < pb + 1; omega) _⟩
theorem DC2.setC (h : DC2 w W z y pb cb s e q o k c D pc a n cc cs xc) (i : Nat) (u : Value) : DC2 w (W.setCell ⟨cb, i, none⟩ u) z y pb cb s e q o k c D pc a n cc cs (xc.setIfInBounds i u) := by
  have h2 := h.h2
  have h3 := h.h3
  refine ⟨⟨h.toDS2.off (by omega) (fun g e => by have := h.lowR g e; omega) (fun m hm ad e => by have := h.lowD m hm ad e; omega) u, h.h2, at_off h.p (by omega) _, h.lowR, h.lowD, ?_⟩, h.h3, at_set h.x i u, h.lowC⟩
  refine World.ownsRow.kept h.crow (grown_set W cb i u) ?_
  rcases h' : (Value.slice a n cc).ownBlock with _ | g
  · exact .inl rfl
  · exact .inr (fun e2 => by have := h.lowC g h'; have : g = cb := by simpa using e2
                             omega)
/-- A pod's box. -/
theorem DS2.pod (h : DS2 w W z y s e q o k c D) : DP2 w (W.alloc (.cells #[.string ⟨#[]⟩, .string ⟨#[]⟩, .string ⟨#[]⟩, .int .u8 0, .int .u16 0, .slice none 0 0] 103)) z y W.heap.size s e q o k c D #[.string ⟨#[]⟩, .string ⟨#[]⟩, .string ⟨#[]⟩, .int .u8 0, .int .u16 0, .slice none 0 0] none 0 0 [] :=
  ⟨h.fresh ((Fresh.refl W).alloc _), lt_of_at h.st, at_new _ _, fun g e => (World.ownsRow.lt h.row g e).2, fun m hm ad e => ((h.far m hm).2 ad e).2.1, World.ownsRow_nil _ _ _ _⟩
theorem DP2.cont (h : DP2 w W z y pb s e q o k c D pc a n cc cs) : DC2 w (W.alloc (.cells #[.string ⟨#[]⟩, .string ⟨#[]⟩] 104)) z y pb W.heap.size s e q o k c D pc a n cc cs #[.string ⟨#[]⟩, .string ⟨#[]⟩] :=
  ⟨h.fresh ((Fresh.refl W).alloc _), lt_of_at h.p, at_new _ _, fun g e => (World.ownsRow.lt h.crow g e).2⟩
/-- Behind an append to the containers. -/
theorem DP2.grownC (h : DP2 w W z y pb s e q o k c D pc a n cc cs) (hg : W.grownBy W' (Value.slice a n cc).ownBlock) {a' : Option Addr} {n' cc' : Nat} {cs' : List C2} (hr : W'.ownsRow (pb + 1) 104 2 (.slice a' n' cc') n' (c2s cs')) : DP2 w W' z y pb s e q o k c D pc a' n' cc' cs' := by
  have h1 := h.h1
  have h2 := h.h2
  have hlt : ∀ g, (Value.slice a n cc).ownBlock = some g → pb + 1 ≤ g := fun g e => (World.ownsRow.lt h.crow g e).1
  have hne : ∀ b, b ≤ pb → some b ≠ (Value.slice a n cc).ownBlock := fun b hb e => by have := hlt b e.symm; omega
  have hat : ∀ {b : Nat} {x : Obj}, b ≤ pb → W.heap[b]? = some x → W'.heap[b]? = some x := fun {b x} hb hx => (hg.block b (lt_of_at hx) (hne b hb)).trans hx
  refine ⟨⟨h.hz, h.h1, hat (by omega) h.r, hat (by omega) h.t, hat (by omega) h.st, ?_, fun m hm => ?_, ?_⟩, h.h2, hat (Nat.le_refl _) h.p, h.lowR, h.lowD, hr⟩
  · refine World.ownsRow.kept h.row hg ?_
    rcases h' : (Value.slice o k c).ownBlock with _ | g
    · exact .inl rfl
    · exact .inr (hne g (Nat.le_of_lt (h.lowR g h')))
  · have hf := h.far m hm
    refine ⟨⟨hf.1.1.keep (fun ad e => hg.block ad.block (hf.2 ad e).2.1 (hne _ (Nat.le_of_lt (h.lowD m hm ad e)))), hf.1.2⟩, fun ad e => ⟨(hf.2 ad e).1, Nat.lt_of_lt_of_le (hf.2 ad e).2.1 hg.size, (hf.2 ad e).2.2⟩⟩
  · exact h.fr.grown hg (fun g e => by have := hlt g e; have := h.hz; omega)
/-- Behind an append to the pods, and its store. -/
theorem DP2.grownP (h : DP2 w W z y pb s e q o k c D pc a n cc cs) {m : M2} (hma : m.a = a) (hmc : m.p.cs = cs) (hml : cs.length ≤ m.c) (hg : W.grownBy W' (Value.slice o k c).ownBlock) {g' c' : Nat} (hat : (Value.slice o k c).ownBlock = some g' ∨ g' = W.heap.size)
    (hr : W'.ownsRow (y + 1) 103 6 (.slice (some ⟨g', 0, none⟩) (k + 1) c') (k + 1) (m2s (D ++ [m]))) : DS2 w (W'.setCell ⟨y, 1, none⟩ (.slice (some ⟨g', 0, none⟩) (k + 1) c')) z y s e q (some ⟨g', 0, none⟩) (k + 1) c' (D ++ [m]) := by
  have h1 := h.h1
  have h2 := h.h2
  have hlt : ∀ g, (Value.slice o k c).ownBlock = some g → y + 1 ≤ g := fun g e => (World.ownsRow.lt h.row g e).1
  have hne : ∀ b, b ≤ y → some b ≠ (Value.slice o k c).ownBlock := fun b hb e => by have := hlt b e.symm; omega
  have hst : ∀ {b : Nat} {x : Obj}, b ≤ y → W.heap[b]? = some x → W'.heap[b]? = some x := fun {b x} hb hx => (hg.block b (lt_of_at hx) (hne b hb)).trans hx
  have hcl := fun g e => World.ownsRow.lt h.crow g e
  have hm : m.Far (y + 1) (Value.slice o k c).ownBlock W := by
    refine ⟨⟨?_, by rw [hmc]; exact hml⟩, fun ad e => ?_⟩
    · rw [hma, hmc]; exact RowAt.owns h.crow
    · have h3 := hcl ad.block (by rw [← hma, e]; rfl)
      exact ⟨by omega, h3.2, fun e2 => by have := h.lowR _ e2.symm; omega⟩
  refine ⟨h.hz, h.h1, at_off (hst (by omega) h.r) (by omega) _, at_off (hst (by omega) h.t) (by omega) _, at_set (hst (Nat.le_refl _) h.st) 1 _, own_set (p := ⟨y, 1, none⟩) hr (by show y < y + 1; omega) _, fun x hx => ?_, ?_⟩
  · have hf : x.Far (y + 1) (Value.slice o k c).ownBlock W := by
      rcases List.mem_append.1 hx with hx | hx
      · exact h.far x hx
      · rw [List.mem_singleton.1 hx]; exact hm
    exact (hf.grown hg hat).set (by omega)
  · exact (h.fr.grown hg (fun g e => by have := hlt g e; have := h.hz; omega)).setCell (p := ⟨y, 1, none⟩) (by show w.heap.size ≤ y; have := h.hz; omega) _
/-- The taker's two cells. -/
theorem DS2.tc (h : DS2 w W z y s e q o k c D) : W.cell? ⟨z + 1, 0, none⟩ = some (.string s) ∧ W.cell? ⟨z + 1, 1, none⟩ = some (.int .i64 e) ∧ W.frozen? ⟨z + 1, 0, none⟩ = false ∧ W.frozen? ⟨z + 1, 1, none⟩ = false :=
  ⟨cell_of_at h.t rfl, cell_of_at h.t rfl, frozen_of_at h.t 0, frozen_of_at h.t 1⟩
theorem DP2.pc6 {v0 v1 v2 v3 v4 v5 : Value} (h : DP2 w W z y pb s e q o k c D #[v0, v1, v2, v3, v4, v5] a n cc cs) :
    (W.cell? ⟨pb, 0, none⟩ = some v0 ∧ W.cell? ⟨pb, 1, none⟩ = some v1 ∧ W.cell? ⟨pb, 2, none⟩ = some v2 ∧ W.cell? ⟨pb, 3, none⟩ = some v3 ∧ W.cell? ⟨pb, 4, none⟩ = some v4 ∧ W.cell? ⟨pb, 5, none⟩ = some v5) ∧ W.frozen? ⟨pb, 0, none⟩ = false ∧ W.frozen? ⟨pb, 1, none⟩ = false ∧ W.frozen? ⟨pb, 2, none⟩ = false ∧ W.frozen? ⟨pb, 3, none⟩ = false ∧ W.frozen? ⟨pb, 4, none⟩ = false ∧ W.frozen? ⟨pb, 5, none⟩ = false :=
  ⟨⟨cell_of_at h.p rfl, cell_of_at h.p rfl, cell_of_at h.p rfl, cell_of_at h.p rfl, cell_of_at h.p rfl, cell_of_at h.p rfl⟩, frozen_of_at h.p 0, frozen_of_at h.p 1, frozen_of_at h.p 2, frozen_of_at h.p 3, frozen_of_at h.p 4, frozen_of_at h.p 5⟩
theorem DC2.xc2 {v0 v1 : Value} (h : DC2 w W z y pb cb s e q o k c D pc a n cc cs #[v0, v1]) : (W.cell? ⟨cb, 0, none⟩ = some v0 ∧ W.cell? ⟨cb, 1, none⟩ = some v1) ∧ W.frozen? ⟨cb, 0, none⟩ = false ∧ W.frozen? ⟨cb, 1, none⟩ = false :=
  ⟨⟨cell_of_at h.x rfl, cell_of_at h.x rfl⟩, frozen_of_at h.x 0, frozen_of_at h.x 1⟩
theorem DS2.row2 (h : DS2 w W z y s e q o k c D) : Row2 W o D := ⟨RowAt.owns h.row, fun m hm => (h.far m hm).1⟩
end
end Go.Proofs.Ytphjhlnjfcfdcaa
namespace Go.Proofs.Ytphjhlnjfcfdcaa
open Go.ChangeShapes Go.WideShapes Go.ChangeAt Go.RowKit
set_option maxRecDepth 100000

abbrev M2.sl (m : M2) : Value := .slice m.a m.p.cs.length m.c
/-- A pod's containers, in a row of the document's that is owned. -/
def M2.Own (N : Nat) (W : World) (m : M2) : Prop := W.ownsRow N 104 2 m.sl m.p.cs.length (c2s m.p.cs)
structure OS (w W : World) (b : Nat) (seq : Int) (o : Option Addr) (k c : Nat) (D : List M2) : Prop where
  hb : b = w.heap.size
  r : W.heap[b + 1]? = some (.cells #[.int .u64 0, .slice none 0 0] 53)
  st : W.heap[b + 2]? = some (.cells #[.int .u64 seq, .slice o k c] 53)
  row : W.ownsRow (b + 3) 103 6 (.slice o k c) k (m2s D)
  each : ∀ m ∈ D, m.Own (b + 3) W
  fr : Fresh w W
structure OP (w W : World) (b : Nat) (seq : Int) (o : Option Addr) (k c : Nat) (D : List M2) (y : Nat) (pc : Array Value) (a : Option Addr) (n cc : Nat) (cs : List C2) : Prop extends OS w W b seq o k c D where
  hy : b + 2 < y
  p : W.heap[y]? = some (.cells pc 103)
  lowR : ∀ g, (Value.slice o k c).ownBlock = some g → g < y
  lowD : ∀ m ∈ D, ∀ g, m.sl.ownBlock = some g → g < y
  crow : W.ownsRow (y + 1) 104 2 (.slice a n cc) n (c2s cs)
theorem own_kept_ne {W W' : World} {B B' e e' k k' n n' : Nat} {v v' : Value} {xs xs' : List Value} (h : W.ownsRow B e k v n xs) (h' : W.ownsRow B' e' k' v' n' xs') (hne : e ≠ e') (hg : W.grownBy W' v'.ownBlock) : W'.ownsRow B e k v n xs :=
  World.ownsRow.kept h hg (own_ne h h' hne)
section
variable {w W W' : World} {b y : Nat} {seq : Int} {o : Option Addr} {k c : Nat} {D : List M2} {pc : Array Value} {a : Option Addr} {n cc : Nat} {cs : List C2}
theorem OS.fresh (h : OS w W b seq o k c D) (f : Fresh W W') : OS w W' b seq o k c D :=
  ⟨h.hb, f.at h.r, f.at h.st, own_fresh h.row f, fun m hm => own_fresh (h.each m hm) f, h.fr.trans f⟩
theorem OP.fresh (h : OP w W b seq o k c D y pc a n cc cs) (f : Fresh W W') : OP w W' b seq o k c D y pc a n cc cs :=
  ⟨h.toOS.fresh f, h.hy, f.at h.p, h.lowR, h.lowD, own_fresh h.crow f⟩
theorem OS.pod (h : OS w W b seq o k c D) (pc : Array Value) : OP w (W.alloc (.cells pc 103)) b seq o k c D W.heap.size pc none 0 0 [] :=
  ⟨h.fresh ((Fresh.refl W).alloc _), lt_of_at h.st, at_new _ _, fun g e => (World.ownsRow.lt h.row g e).2, fun m hm g e => (World.ownsRow.lt (h.each m hm) g e).2, World.ownsRow_nil _ _ _ _⟩
theorem OP.setP (h : OP w W b seq o k c D y pc a n cc cs) (i : Nat) (u : Value) : OP w (W.setCell ⟨y, i, none⟩ u) b seq o k c D y (pc.setIfInBounds i u) a n cc cs := by
  have hy := h.hy
  refine ⟨⟨h.hb, at_off h.r (by omega) _, at_off h.st (by omega) _, ?_, fun m hm => own_type (h.each m hm) h.p (by decide) i u, ?_⟩, h.hy, at_set h.p i u, h.lowR, h.lowD, own_set (p := ⟨y, i, none⟩) h.crow (by show y < y + 1; omega) _⟩
  · refine World.ownsRow.kept h.row (grown_set W y i u) ?_
    rcases h' : (Value.slice o k c).ownBlock with _ | g
    · exact .inl rfl
    · exact .inr (fun e2 => by have := h.lowR g h'; have : g = y := by simpa using e2
                               omega)
  · exact h.fr.setCell (p := ⟨y, i, none⟩) (by show w.heap.size ≤ y; rw [← h.hb]; omega) _
/-- Behind an append to the containers. -/
theorem OP.grownC (h : OP w W b seq o k c D y pc a n cc cs) (hg : W.grownBy W' (Value.slice a n cc).ownBlock) {a' : Option Addr} {n' cc' : Nat} {cs' : List C2} (hr : W'.ownsRow (y + 1) 104 2 (.slice a' n' cc') n' (c2s cs')) : OP w W' b seq o k c D y pc a' n' cc' cs' := by
  have hy := h.hy
  have hlt : ∀ g, (Value.slice a n cc).ownBlock = some g → y + 1 ≤ g := fun g e => (World.ownsRow.lt h.crow g e).1
  have hne : ∀ x, x ≤ y → some x ≠ (Value.slice a n cc).ownBlock := fun x hx e => by have := hlt x e.symm; omega
  have hat : ∀ {x : Nat} {z : Obj}, x ≤ y → W.heap[x]? = some z → W'.heap[x]? = some z := fun {x z} hx hz => (hg.block x (lt_of_at hz) (hne x hx)).trans hz
  refine ⟨⟨h.hb, hat (by omega) h.r, hat (by omega) h.st, own_kept_ne h.row h.crow (by decide) hg, fun m hm => ?_, ?_⟩, h.hy, hat (Nat.le_refl _) h.p, h.lowR, h.lowD, hr⟩
  · refine World.ownsRow.kept (h.each m hm) hg ?_
    rcases h' : m.sl.ownBlock with _ | g
    · exact .inl rfl
    · exact .inr (hne g (Nat.le_of_lt (h.lowD m hm g h')))
  · exact h.fr.grown hg (fun g e => by have := hlt g e; have := h.hb; omega)
/-- Behind an append to the pods, and its store. -/
theorem OP.grownP (h : OP w W b seq o k c D y pc a n cc cs) {m : M2} (hma : m.sl = .slice a n cc) (hml : m.p.cs.length = n) (hmc : m.p.cs = cs) (hg : W.grownBy W' (Value.slice o k c).ownBlock) {o' : Option Addr} {c' : Nat}
    (hr : W'.ownsRow (b + 3) 103 6 (.slice o' (k + 1) c') (k + 1) (m2s (D ++ [m]))) : OS w (W'.setCell ⟨b + 2, 1, none⟩ (.slice o' (k + 1) c')) b seq o' (k + 1) c' (D ++ [m]) := by
  have hy := h.hy
  have hlt : ∀ g, (Value.slice o k c).ownBlock = some g → b + 3 ≤ g := fun g e => (World.ownsRow.lt h.row g e).1
  have hat : ∀ {x : Nat} {z : Obj}, x ≤ b + 2 → W.heap[x]? = some z → W'.heap[x]? = some z := fun {x z} hx hz => (hg.block x (lt_of_at hz) (fun e => by have := hlt x e.symm; omega)).trans hz
  refine ⟨h.hb, at_off (hat (by omega) h.r) (by omega) _, at_set (hat (Nat.le_refl _) h.st) 1 _, own_set (p := ⟨b + 2, 1, none⟩) hr (by show b + 2 < b + 3; omega) _, fun x hx => ?_, ?_⟩
  · refine own_set (p := ⟨b + 2, 1, none⟩) ?_ (by show b + 2 < b + 3; omega) _
    rcases List.mem_append.1 hx with hx | hx
    · exact own_kept_ne (h.each x hx) h.row (by decide) hg
    · rw [List.mem_singleton.1 hx]
      show W'.ownsRow (b + 3) 104 2 m.sl m.p.cs.length (c2s m.p.cs)
      rw [hma, hml, hmc]
      exact World.ownsRow.mono (base := y + 1) (own_kept_ne h.crow h.row (by decide) hg) (by omega)
  · exact (h.fr.grown hg (fun g e => by have := hlt g e; have := h.hb; omega)).setCell (p := ⟨b + 2, 1, none⟩) (by show w.heap.size ≤ b + 2; have := h.hb; omega) _
theorem OP.pc6 {v0 v1 v2 v3 v4 v5 : Value} (h : OP w W b seq o k c D y #[v0, v1, v2, v3, v4, v5] a n cc cs) :
    (W.cell? ⟨y, 0, none⟩ = some v0 ∧ W.cell? ⟨y, 1, none⟩ = some v1 ∧ W.cell? ⟨y, 2, none⟩ = some v2 ∧ W.cell? ⟨y, 3, none⟩ = some v3 ∧ W.cell? ⟨y, 4, none⟩ = some v4 ∧ W.cell? ⟨y, 5, none⟩ = some v5) ∧ W.frozen? ⟨y, 0, none⟩ = false ∧ W.frozen? ⟨y, 1, none⟩ = false ∧ W.frozen? ⟨y, 2, none⟩ = false ∧ W.frozen? ⟨y, 3, none⟩ = false ∧ W.frozen? ⟨y, 4, none⟩ = false ∧ W.frozen? ⟨y, 5, none⟩ = false :=
  ⟨⟨cell_of_at h.p rfl, cell_of_at h.p rfl, cell_of_at h.p rfl, cell_of_at h.p rfl, cell_of_at h.p rfl, cell_of_at h.p rfl⟩, frozen_of_at h.p 0, frozen_of_at h.p 1, frozen_of_at h.p 2, frozen_of_at h.p 3, frozen_of_at h.p 4, frozen_of_at h.p 5⟩
end
/-- What Of answers. -/
def OfIs2 (seq : Int) (l : List P2) (w : World) (r : Ending) (w' : World) : Prop :=
  ∃ a c, ∃ D : List M2, r = .returned (st2 seq a D.length c) ∧ pods2 D = l ∧ w'.ownsRow w.heap.size 103 6 (.slice a D.length c) D.length (m2s D) ∧ (∀ m ∈ D, m.Own w.heap.size w') ∧ Fresh w w'
theorem M2.Own.in {N : Nat} {W : World} {m : M2} (h : m.Own N W) : m.In W := ⟨RowAt.owns h, own_le h⟩
set_option maxHeartbeats 8000000 in
theorem of2_any (seq : Int) (a : Option Addr) (l : List M2) (c : Nat) (w : World) (h : Row2 w a l) (hl : l.length ≤ 4000000) (hcl : ∀ m ∈ l, m.p.cs.length ≤ 4000000) :
    Calls Try.prog 24 #[st2 seq a l.length c] w (OfIs2 seq (pods2 l) w) := by
  have HROW := Lib.hid h
  have HCL := Lib.hid hcl
  obtain ⟨i0, hi, hz0, hz1, hz2⟩ := info_parts infoRP2
  obtain ⟨i1, hic, hic0, hic1, hic2⟩ := info_parts infoRC2
  dsimp only [st2]
  clear h hcl
  unfold OfIs2
  have hA := at_new ((w.alloc (.cells #[.int .u64 seq, .slice a l.length c] 49)).alloc (.cells #[.int .u64 0, .slice none 0 0] 53)) (.cells #[.int .u64 seq, .slice none 0 0] 53)
  rw [World.size_alloc, World.size_alloc] at hA
  have hB := at_new (w.alloc (.cells #[.int .u64 seq, .slice a l.length c] 49)) (.cells #[.int .u64 0, .slice none 0 0] 53)
  rw [World.size_alloc] at hB
  have hB := at_alloc (p := .cells #[.int .u64 seq, .slice none 0 0] 53) hB
  have hOS : OS w (((w.alloc (.cells #[.int .u64 seq, .slice a l.length c] 49)).alloc (.cells #[.int .u64 0, .slice none 0 0] 53)).alloc (.cells #[.int .u64 seq, .slice none 0 0] 53)) w.heap.size seq none 0 0 [] :=
    ⟨rfl, hB, hA, World.ownsRow_nil _ _ _ _, by simp, (((Fresh.refl w).alloc _).alloc _).alloc _⟩
  have HOS0 := Lib.hid hOS
  clear hA hB hOS
  go_enter Try.func24, Try.ntmps24
  go_wp2
  generalize ((w.alloc (.cells #[.int .u64 seq, .slice a l.length c] 49)).alloc (.cells #[.int .u64 0, .slice none 0 0] 53)).alloc (.cells #[.int .u64 seq, .slice none 0 0] 53) = W0 at *
  obtain ⟨b, hb⟩ : ∃ b, b = w.heap.size := ⟨_, rfl⟩
  have HBW := Lib.hid hb
  rw [← hb] at HOS0 ⊢
  clear hb
  go_loopw [15] (fun a15 wr => ∃ (k : Nat) (o : Option Addr) (c : Nat) (D : List M2), a15 = .int .i64 (k : Int) ∧ k ≤ l.length ∧ Hid (D.length = k) ∧ Hid (pods2 D = (pods2 l).take k) ∧ Hid (OS w wr b seq o k c D)) (fun a15 _ => l.length - (intOf a15).toNat)
  case atStart => exact ⟨0, none, 0, [], rfl, Nat.zero_le _, rfl, rfl, HOS0.out⟩
  case round =>
  clear HOS0
  obtain ⟨k, o, c2, D, rfl, hk, HD, HPD, HOS⟩ := hrel
  by_cases hlt : k < l.length
  case pos =>
    have hR := HROW.out.move HOS.out.fr
    obtain ⟨g, o1, rfl, hc⟩ := m2_form hR.row hlt
    obtain ⟨c0, c1, c2', c3, c4, c5⟩ := hc k hlt
    have HIN := Lib.hid (HROW.out.ins _ (List.getElem_mem hlt)).1
    have HNL := Lib.hid (HCL.out _ (List.getElem_mem hlt))
    have HTK : Hid ((pods2 l).take (k + 1) = (pods2 l).take k ++ [l[k].p]) := by
      rw [Hid, List.take_succ_eq_append_getElem (by simpa [pods2] using hlt)]; simp [pods2]
    have hsz3 : b + 2 < wr.heap.size := lt_of_at HOS.out.st
    clear hc hR
    generalize l[k] = m at *
    obtain ⟨⟨file, name, ns, r, gr, cs⟩, ca, cc⟩ := m
    have y4 : cs.length ≤ 4000000 := HNL.out
    have HIN : Hid (RowAt w ca (c2s cs)) := HIN.out
    dsimp only at *
    clear HNL
    have hOP := (HOS.out.fresh ((Fresh.refl wr).alloc (.cells #[.string file, .string name, .string ns, .int .u8 r, .int .u16 gr, .slice ca cs.length cc] 98))).pod #[.string file, .string name, .string ns, .int .u8 r, .int .u16 gr, .slice none 0 0]
    rw [World.size_alloc] at hOP
    have HOP0 := Lib.hid hOP
    clear hOP
    go_wp2
    all_goals try (exfalso; omega)
    clear c0 c1 c2' c3 c4 c5
    generalize (wr.alloc (.cells #[.string file, .string name, .string ns, .int .u8 r, .int .u16 gr, .slice ca cs.length cc] 98)).alloc (.cells #[.string file, .string name, .string ns, .int .u8 r, .int .u16 gr, .slice none 0 0] 103) = V0 at *
    obtain ⟨y, hy⟩ : ∃ y, y = wr.heap.size + 1 := ⟨_, rfl⟩
    rw [← hy] at HOP0 ⊢
    clear hy
    go_loopw [33] (fun a33 wv => ∃ (j : Nat) (a2 : Option Addr) (cc2 : Nat), a33 = .int .i64 (j : Int) ∧ j ≤ cs.length ∧ Hid (OP w wv b seq o k c2 D y #[.string file, .string name, .string ns, .int .u8 r, .int .u16 gr, .slice a2 j cc2] a2 j cc2 (cs.take j))) (fun a33 _ => cs.length - (intOf a33).toNat)
    case atStart => exact ⟨0, none, 0, rfl, Nat.zero_le _, HOP0.out⟩
    case round =>
    clear HOP0 HOS
    obtain ⟨j, a2, cc2, rfl, hj, HOP⟩ := hrel
    obtain ⟨⟨p0, p1, p2, p3, p4, p5⟩, g0, g1, g2, g3, g4, g5⟩ := HOP.out.pc6
    by_cases hjlt : j < cs.length
    case pos =>
      obtain ⟨gc, oc, rfl, hcc⟩ := c2_form (HIN.out.move HOP.out.fr) hjlt
      obtain ⟨l0, l1⟩ := hcc j hjlt
      have HTC : Hid (c2s (cs.take (j + 1)) = c2s (cs.take j) ++ [.string cs[j].name, .string cs[j].image]) := by rw [Hid, List.take_succ_eq_append_getElem hjlt, c2s_snoc]
      have hys : y < wr.heap.size := lt_of_at HOP.out.p
      clear hcc
      generalize cs[j] = x at *
      obtain ⟨x1, x2⟩ := x
      dsimp only at *
      have HN : Hid (∀ j u, [Value.string x1, .string x2][j]? = some u → ((wr.alloc (.cells #[.string x1, .string x2] 100)).alloc (.cells #[.string x1, .string x2] 104)).cell? ((⟨wr.heap.size + 1, 0, none⟩ : Addr).add j) = some u) := by
        have := news7 (wr.alloc (.cells #[.string x1, .string x2] 100)) 104 [.string x1, .string x2]
        rw [World.size_alloc] at this
        exact this
      have HOQ := Lib.hid (HOP.out.fresh (((Fresh.refl wr).alloc (.cells #[.string x1, .string x2] 100)).alloc (.cells #[.string x1, .string x2] 104)))
      go_wp2_with (at_builtin; refine Hid.out ?_)
      all_goals try (exfalso; omega)
      refine Lib.hid ?_
      refine wpList_append_own _ rfl _ _ 101 rfl (y + 1) 104 i1 (.agg #[.string ⟨#[]⟩, .string ⟨#[]⟩]) 2 32 Try.underlying101 hic hic0 hic1 hic2 rfl (by decide) _ j _ rfl HOQ.out.crow ⟨wr.heap.size + 1, 0, none⟩ 1 1 [.string x1, .string x2] rfl rfl HN.out (by simp [Value.oneCell']) (by unfold maxLen; omega) (by omega) (by rw [World.size_alloc, World.size_alloc]; omega) ?_
      intro v' w3 hown' hgrow _
      obtain ⟨g', cap', rfl⟩ := ownsRow_succ hown'
      have HOR := Lib.hid (HOQ.out.grownC (cs' := cs.take (j + 1)) hgrow (by rw [HTC.out]; exact hown'))
      clear hown' hgrow p0 p1 p2 p3 p4 p5 g0 g1 g2 g3 g4 g5 l0 l1
      obtain ⟨⟨p0, p1, p2, p3, p4, p5⟩, g0, g1, g2, g3, g4, g5⟩ := HOR.out.pc6
      go_wp2
      have HOT : Hid (OP w (w3.setCell ⟨y, 5, none⟩ (.slice (some ⟨g', 0, none⟩) (j + 1) cap')) b seq o k c2 D y #[.string file, .string name, .string ns, .int .u8 r, .int .u16 gr, .slice (some ⟨g', 0, none⟩) (j + 1) cap'] (some ⟨g', 0, none⟩) (j + 1) cap' (cs.take (j + 1))) := HOR.out.setP 5 _
      go_roundw
      case rel => exact ⟨j + 1, some ⟨g', 0, none⟩, cap', by simp, by omega, HOT.out⟩
      case measure => simp [intOf]; omega
    case neg =>
      obtain rfl : j = cs.length := by omega
      have HOP : Hid (OP w wr b seq o k c2 D y #[.string file, .string name, .string ns, .int .u8 r, .int .u16 gr, .slice a2 cs.length cc2] a2 cs.length cc2 cs) := by
        have := HOP.out
        rw [List.take_length] at this; exact this
      have q1 := cell_of_at HOP.out.st (i := 1) rfl
      have hy2 : b + 2 < y := HOP.out.hy
      have hbs : b + 2 < wr.heap.size := lt_of_at HOP.out.st
      have hys : y < wr.heap.size := lt_of_at HOP.out.p
      have HN := Lib.hid (news7 wr 103 [.string file, .string name, .string ns, .int .u8 r, .int .u16 gr, .slice a2 cs.length cc2])
      go_wp2_with (at_builtin; refine Hid.out ?_)
      all_goals try (exfalso; omega)
      refine Lib.hid ?_
      refine wpList_append_lies _ rfl _ _ 51 rfl (b + 3) 103 i0 (.agg #[.string ⟨#[]⟩, .string ⟨#[]⟩, .string ⟨#[]⟩, .int .u8 0, .int .u16 0, .slice none 0 0]) 6 80 Try.underlying51 hi hz0 hz1 hz2 rfl (by decide) _ k _ rfl (World.ownsRow.alloc HOP.out.row _) ⟨wr.heap.size, 0, none⟩ 1 1 [.string file, .string name, .string ns, .int .u8 r, .int .u16 gr, .slice a2 cs.length cc2] rfl rfl HN.out (by simp [Value.oneCell']) (by decide) (by unfold maxLen; omega) (by omega) (by rw [World.size_alloc]; omega) _ rfl ?_
      intro g' cap' w8 hown' hgrow hat _
      have HND : Hid (OS w (w8.setCell ⟨b + 2, 1, none⟩ (.slice (some ⟨g', 0, none⟩) (k + 1) cap')) b seq (some ⟨g', 0, none⟩) (k + 1) cap' (D ++ [(⟨⟨file, name, ns, r, gr, cs⟩, a2, cc2⟩ : M2)])) :=
        (HOP.out.fresh ((Fresh.refl wr).alloc _)).grownP (m := ⟨⟨file, name, ns, r, gr, cs⟩, a2, cc2⟩) rfl rfl rfl hgrow (by rw [m2s_snoc]; exact hown')
      have hyk : w8.cell? ⟨b + 2, 1, none⟩ = some (.slice o k c2) ∧ w8.frozen? ⟨b + 2, 1, none⟩ = false := by
        have hlt : ∀ g, (Value.slice o k c2).ownBlock = some g → b + 3 ≤ g := fun g e => (World.ownsRow.lt HOP.out.row g e).1
        have h1 := (hgrow.block (b + 2) (by rw [World.size_alloc]; omega) (fun e => by have := hlt (b + 2) e.symm; omega)).trans (at_alloc HOP.out.st)
        exact ⟨cell_of_at h1 (i := 1) rfl, frozen_of_at h1 1⟩
      obtain ⟨k1, kf⟩ := hyk
      clear hown' hgrow hat q1 p0 p1 p2 p3 p4 p5 g0 g1 g2 g3 g4 g5
      go_wp2
      go_roundw
      case rel =>
        refine ⟨k + 1, some ⟨g', 0, none⟩, cap', D ++ [(⟨⟨file, name, ns, r, gr, cs⟩, a2, cc2⟩ : M2)], by simp, by omega, ?_, ?_, HND.out⟩
        · rw [Hid, List.length_append, HD.out]; rfl
        · rw [Hid, pods2_snoc, HPD.out, HTK.out]
      case measure => simp [intOf]; omega
  case neg =>
    obtain rfl : k = l.length := by omega
    obtain ⟨p0, p1, _⟩ := st2_box HOS.out.st
    obtain ⟨q0, q1, hfz⟩ := st2_box HOS.out.r
    have f0 := hfz 0
    have f1 := hfz 1
    clear hfz
    go_wp2
    all_goals try (exfalso; omega)
    have hpl : (pods2 l).length = l.length := by simp [pods2]
    have hN : w.heap.size ≤ b + 3 := by have := HBW.out; omega
    refine bodyPost_ret (v := st2 seq o l.length c2) (by simp [results, Try.results24, go_sem, st2, *]) rfl ⟨o, c2, D, by rw [HD.out], ?_, ?_, fun m hm => ?_, ?_⟩
    · rw [HPD.out, ← hpl, List.take_length]
    · have hown := HOS.out.row
      rw [HD.out]
      refine World.ownsRow.mono (base := b + 3) ?_ hN
      exact own_set (p := ⟨b + 1, 1, none⟩) (own_set (p := ⟨b + 1, 0, none⟩) hown (by show b + 1 < b + 3; omega) _) (by show b + 1 < b + 3; omega) _
    · refine World.ownsRow.mono (base := b + 3) ?_ hN
      exact own_set (p := ⟨b + 1, 1, none⟩) (own_set (p := ⟨b + 1, 0, none⟩) (HOS.out.each m hm) (by show b + 1 < b + 3; omega) _) (by show b + 1 < b + 3; omega) _
    · exact (HOS.out.fr.setCell (p := ⟨b + 1, 0, none⟩) (by have := HBW.out; show _ ≤ b + 1; omega) _).setCell (p := ⟨b + 1, 1, none⟩) (by have := HBW.out; show _ ≤ b + 1; omega) _
end Go.Proofs.Ytphjhlnjfcfdcaa
namespace Go.Proofs.Ytphjhlnjfcfdcaa
open Go.ChangeShapes Go.WideShapes Go.ChangeAt Go.RowKit
set_option maxRecDepth 100000

def C2.w (c : C2) : Nat := 1 + c.name.size + c.image.size
def P2.w (p : P2) : Nat := 1 + p.file.size + p.name.size + p.ns.size
def cW : Int → List C2 → Int
  | n, [] => n
  | n, c :: l => cW (wrap64 (n + (c.w : Int))) l
def smB : Int → List P2 → Bool
  | _, [] => true
  | n, p :: l => if 20000 < cW (wrap64 (n + (p.w : Int))) p.cs then false else smB (cW (wrap64 (n + (p.w : Int))) p.cs) l
theorem cW_drop {l : List C2} {k : Nat} (h : k < l.length) (n : Int) : cW n (l.drop k) = cW (wrap64 (n + (l[k].w : Int))) (l.drop (k + 1)) := by
  rw [List.drop_eq_getElem_cons h, cW]
theorem smB_drop {l : List P2} {k : Nat} (h : k < l.length) (n : Int) : smB n (l.drop k) = if 20000 < cW (wrap64 (n + (l[k].w : Int))) l[k].cs then false else smB (cW (wrap64 (n + (l[k].w : Int))) l[k].cs) (l.drop (k + 1)) := by
  rw [List.drop_eq_getElem_cons h, smB]
/-! ### where nothing is too great for the machine's sum -/
def csW (l : List C2) : Nat := (l.map C2.w).sum
theorem wrap_nat {n : Nat} (h : n ≤ 4611686018427387904) : wrap64 ((n : Nat) : Int) = (n : Int) := by unfold wrap64; omega
theorem cW_nat : ∀ (l : List C2) (n : Nat), n + csW l ≤ 4611686018427387904 → cW (n : Int) l = ((n + csW l : Nat) : Int)
  | [], n, _ => by simp [cW, csW]
  | c :: l, n, h => by
    have e : csW (c :: l) = c.w + csW l := by simp [csW]
    rw [e] at h ⊢
    rw [cW, show (n : Int) + (c.w : Int) = ((n + c.w : Nat) : Int) from by omega, wrap_nat (by omega), cW_nat l (n + c.w) (by omega), Nat.add_assoc]
theorem csW_mem : ∀ (l : List C2), l.length ≤ csW l ∧ ∀ c ∈ l, c.name.size ≤ csW l ∧ c.image.size ≤ csW l
  | [] => by simp [csW]
  | c :: l => by
    have e : csW (c :: l) = c.w + csW l := by simp [csW]
    obtain ⟨h1, h2⟩ := csW_mem l
    rw [e, List.length_cons]
    have hw : c.w = 1 + c.name.size + c.image.size := rfl
    refine ⟨by omega, fun d hd => ?_⟩
    rcases List.mem_cons.1 hd with rfl | hd
    · omega
    · have := h2 d hd; omega
structure P2.Short (p : P2) : Prop where
  file : p.file.size ≤ 20000
  name : p.name.size ≤ 20000
  ns : p.ns.size ≤ 20000
  len : p.cs.length ≤ 20000
  cs : ∀ c ∈ p.cs, c.name.size ≤ 20000 ∧ c.image.size ≤ 20000
theorem smB_short : ∀ (l : List P2) (n : Nat), n ≤ 20000 → (∀ p ∈ l, p.w + csW p.cs ≤ 2305843009213693952) → smB (n : Int) l = true → l.length + n ≤ 20000 ∧ ∀ p ∈ l, p.Short
  | [], n, hn, _, _ => ⟨by simpa using hn, by simp⟩
  | p :: l, n, hn, hb, h => by
    have hp := hb p List.mem_cons_self
    have hw : p.w = 1 + p.file.size + p.name.size + p.ns.size := rfl
    have e : cW (wrap64 ((n : Int) + (p.w : Int))) p.cs = ((n + p.w + csW p.cs : Nat) : Int) := by
      rw [show (n : Int) + (p.w : Int) = ((n + p.w : Nat) : Int) from by omega, wrap_nat (by omega), cW_nat p.cs (n + p.w) (by omega)]
    rw [smB, e] at h
    split at h
    · simp at h
    · rename_i h1
      obtain ⟨h2, h3⟩ := smB_short l _ (by omega) (fun q hq => hb q (List.mem_cons_of_mem _ hq)) h
      obtain ⟨h4, h5⟩ := csW_mem p.cs
      refine ⟨by rw [List.length_cons]; omega, fun q hq => ?_⟩
      rcases List.mem_cons.1 hq with rfl | hq
      · exact ⟨by omega, by omega, by omega, by omega, fun c hc => by have := h5 c hc; omega⟩
      · exact h3 q hq
set_option maxHeartbeats 4000000 in
theorem small2_any (seq : Int) (a : Option Addr) (l : List M2) (c : Nat) (w : World) (h : Row2 w a l) (hf : ∀ m ∈ l, m.p.Fit 140737488355328) (hl : l.length ≤ maxLen) (hcl : ∀ m ∈ l, m.p.cs.length ≤ maxLen) :
    Calls Try.prog 22 #[st2 seq a l.length c] w fun e w' => e = .returned (.bool (smB 0 (pods2 l))) ∧ Fresh w w' := by
  unfold maxLen at hl
  have HROW := Lib.hid h
  have HFT := Lib.hid hf
  have HCL := Lib.hid hcl
  have HF0 := Lib.hid ((Fresh.refl w).alloc (.cells #[.int .u64 seq, .slice a l.length c] 49))
  have HC : Hid (smB 0 (pods2 l) = smB 0 ((pods2 l).drop 0)) := rfl
  have hpl : (pods2 l).length = l.length := by simp [pods2]
  dsimp only [st2]
  clear h hf hcl
  generalize smB 0 (pods2 l) = E at *
  go_enter Try.func22, Try.ntmps22
  go_wp2
  generalize w.alloc (.cells #[.int .u64 seq, .slice a l.length c] 49) = W0 at *
  go_loopw [3, 11] (fun a3 a11 wr => ∃ (k : Nat) (n : Int), a11 = .int .i64 (k : Int) ∧ a3 = .int .i64 n ∧ k ≤ l.length ∧ Hid (E = smB n ((pods2 l).drop k)) ∧ Hid (Fresh W0 wr)) (fun _ a11 _ => l.length - (intOf a11).toNat)
  case atStart => exact ⟨0, 0, rfl, rfl, Nat.zero_le _, HC.out, Fresh.refl _⟩
  case round =>
  obtain ⟨k, n, rfl, rfl, hk, HE, HF⟩ := hrel
  by_cases hlt : k < l.length
  case pos =>
    have hR := (HROW.out.move HF0.out).move HF.out
    obtain ⟨g, o1, rfl, hc⟩ := m2_form hR.row hlt
    obtain ⟨c0, c1, c2, c3, c4, c5⟩ := hc k hlt
    have HIN := Lib.hid (hR.ins _ (List.getElem_mem hlt)).1
    have HFI := Lib.hid (HFT.out _ (List.getElem_mem hlt))
    have HNL := Lib.hid (HCL.out _ (List.getElem_mem hlt))
    have hkp : k < (pods2 l).length := by omega
    have hpk : (pods2 l)[k] = l[k].p := by simp [pods2]
    have HSTEP : Hid (E = if 20000 < cW (wrap64 (n + (l[k].p.w : Int))) l[k].p.cs then false else smB (cW (wrap64 (n + (l[k].p.w : Int))) l[k].p.cs) ((pods2 l).drop (k + 1))) := by
      have := HE.out.trans (smB_drop hkp n)
      rw [hpk] at this; exact this
    clear hc hR hkp hpk HE
    generalize l[k] = m at *
    obtain ⟨⟨file, name, ns, r, gr, cs⟩, ca, cc⟩ := m
    have y1 : file.size ≤ 140737488355328 := HFI.out.file
    have y2 : name.size ≤ 140737488355328 := HFI.out.name
    have y3 : ns.size ≤ 140737488355328 := HFI.out.ns
    have y4 : cs.length ≤ 9223372036854775807 := HNL.out
    have HFC : Hid (∀ x ∈ cs, x.name.size ≤ 140737488355328 ∧ x.image.size ≤ 140737488355328) := HFI.out.cs
    have HIN : Hid (RowAt wr ca (c2s cs)) := HIN.out
    have HW : Hid (P2.w ⟨file, name, ns, r, gr, cs⟩ = 1 + file.size + name.size + ns.size) := rfl
    have HSTEP : Hid (E = if 20000 < cW (wrap64 (n + (P2.w ⟨file, name, ns, r, gr, cs⟩ : Int))) cs then false else smB (cW (wrap64 (n + (P2.w ⟨file, name, ns, r, gr, cs⟩ : Int))) cs) ((pods2 l).drop (k + 1))) := HSTEP.out
    have hadd : n + (1 + (file.size : Int) + (name.size : Int) + (ns.size : Int)) = n + (P2.w ⟨file, name, ns, r, gr, cs⟩ : Int) := by rw [HW.out]; omega
    dsimp only at *
    have HF1 := Lib.hid ((Fresh.refl wr).alloc (.cells #[.string file, .string name, .string ns, .int .u8 r, .int .u16 gr, .slice ca cs.length cc] 98))
    generalize n + (P2.w ⟨file, name, ns, r, gr, cs⟩ : Int) = s1 at *
    clear HFI HNL HW
    obtain ⟨n1, hn1⟩ : ∃ n1, n1 = wrap64 s1 := ⟨_, rfl⟩
    have HN1 := Lib.hid hn1
    rw [← hn1] at HSTEP
    clear hn1
    go_wp2
    all_goals try (exfalso; omega)
    rw [← HN1.out]
    clear c0 c1 c2 c3 c4 c5 hadd HN1
    generalize wr.alloc (.cells #[.string file, .string name, .string ns, .int .u8 r, .int .u16 gr, .slice ca cs.length cc] 98) = V0 at *
    have HIN := Lib.hid (HIN.out.move HF1.out)
    have HF2 := Lib.hid (HF.out.trans HF1.out)
    generalize hT : cW n1 cs = T at *
    have HT : Hid (T = cW n1 (cs.drop 0)) := hT.symm
    clear hT HF HF1
    go_loopw [3, 32] (fun a3 a32 wv => ∃ (j : Nat) (n2 : Int), a32 = .int .i64 (j : Int) ∧ a3 = .int .i64 n2 ∧ j ≤ cs.length ∧ Hid (T = cW n2 (cs.drop j)) ∧ Hid (Fresh V0 wv)) (fun _ a32 _ => cs.length - (intOf a32).toNat)
    case atStart => exact ⟨0, n1, rfl, rfl, Nat.zero_le _, HT.out, Fresh.refl _⟩
    case round =>
    clear HT
    obtain ⟨j, n2, rfl, rfl, hj, HEJ, HFJ⟩ := hrel
    by_cases hjlt : j < cs.length
    case pos =>
      obtain ⟨gc, oc, rfl, hcc⟩ := c2_form (HIN.out.move HFJ.out) hjlt
      obtain ⟨l0, l1⟩ := hcc j hjlt
      have hx := HFC.out _ (List.getElem_mem hjlt)
      have HST := Lib.hid (HEJ.out.trans (cW_drop hjlt n2))
      clear hcc HEJ
      generalize cs[j] = x at *
      obtain ⟨x1, x2⟩ := x
      have HW : Hid (C2.w ⟨x1, x2⟩ = 1 + x1.size + x2.size) := rfl
      have hadd : n2 + (1 + (x1.size : Int) + (x2.size : Int)) = n2 + (C2.w ⟨x1, x2⟩ : Int) := by rw [HW.out]; omega
      obtain ⟨z1, z2⟩ := hx
      dsimp only at *
      have HFX := Lib.hid (HFJ.out.alloc (.cells #[.string x1, .string x2] 100))
      generalize n2 + (C2.w ⟨x1, x2⟩ : Int) = s3 at *
      clear HW
      go_wp2
      all_goals try (exfalso; omega)
      go_roundw
      case rel => exact ⟨j + 1, wrap64 s3, by simp, rfl, by omega, HST.out, HFX.out⟩
      case measure => simp [intOf]; omega
    case neg =>
      obtain rfl : j = cs.length := by omega
      have HT : Hid (T = n2) := by rw [Hid, HEJ.out, List.drop_of_length_le (Nat.le_refl _)]; rfl
      clear HEJ
      have hT := HT.out
      subst hT
      by_cases h2 : 20000 < T
      · have HR : Hid (E = false) := by rw [Hid, HSTEP.out, if_pos h2]
        clear HSTEP
        go_wp2
        all_goals try (exfalso; omega)
        go_ret
        exact ⟨ret_bool HR.out.symm, (HF0.out.trans HF2.out).trans HFJ.out⟩
      · have HN : Hid (E = smB T ((pods2 l).drop (k + 1))) := by rw [Hid, HSTEP.out, if_neg h2]
        clear HSTEP
        go_wp2
        all_goals try (exfalso; omega)
        go_roundw
        case rel => exact ⟨k + 1, T, by simp, rfl, by omega, HN.out, HF2.out.trans HFJ.out⟩
        case measure => simp [intOf]; omega
  case neg =>
    obtain rfl : k = l.length := by omega
    have HR : Hid (E = true) := by rw [Hid, HE.out, List.drop_of_length_le (by omega)]; rfl
    go_wp2
    all_goals try (exfalso; omega)
    go_ret
    exact ⟨ret_bool HR.out.symm, HF0.out.trans HF.out⟩
end Go.Proofs.Ytphjhlnjfcfdcaa
