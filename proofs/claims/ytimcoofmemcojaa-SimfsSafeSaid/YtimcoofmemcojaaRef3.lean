/-
  The document's answer for layer 4: Do, what a deed does to a directory.
-/
import Derived.Test.YtimcoofmemcojaaRef2
import Derived.Deep.RegionHeldLaw
namespace Go.Proofs.Ytimcoofmemcojaa
open Go.ChangeShapes Go.WideShapes Go.ChangeAt Go.RowKit
variable {w : World}
def DoIs (w : World) (l : List Und) (e : Ending) (w' : World) : Prop := ∃ v, e = .returned v ∧ undAt w.heap.size w' v l ∧ Fresh w w'
/-- Behind Without, an entry in a block of its own: ready to be appended. -/
theorem ready_after {W w1 : World} {o : Value} {m : List Und} {B : Nat} (u : Und) (hB : B ≤ W.heap.size) (ho : undAt W.heap.size w1 o m) (hf : Fresh W w1) : AtUnd B (w1.alloc (.cells #[.string u.1, .int .i64 u.2] 94)) o m w1.heap.size u :=
  AtUnd.mk' u (ho.mono hB) (Nat.le_trans hB hf.size)
theorem ready_before {W w1 : World} {o : Value} {m : List Und} {B X : Nat} (u : Und) (hB : B ≤ W.heap.size) (hX : W.heap[X]? = some (.cells #[.string u.1, .int .i64 u.2] 94 (0, 0))) (ho : undAt W.heap.size w1 o m) (hf : Fresh W w1) : AtUnd B w1 o m X u :=
  ⟨ho.mono hB, World.news_of_block (hf.at hX), Nat.le_trans hB hf.size⟩
theorem do_out {W w1 w2 : World} {o v' : Value} {m : List Und} {u : Und} (ho : undAt W.heap.size w1 o m) (hf : Fresh W w1) (hown : w2.ownsRow W.heap.size 94 2 v' (m.length + 1) (undCells m ++ u.cells)) (hg : w1.grownBy w2 o.ownBlock) : DoIs W (m ++ [u]) (.returned v') w2 :=
  ⟨v', rfl, by unfold undAt; rw [undCells_snoc]; simpa using hown, und_grown (Nat.le_refl _) ho hf hg⟩
set_option maxRecDepth 100000 in
set_option maxHeartbeats 4000000 in
theorem rdo_came {B : Nat} (v : Value) (l : List Und) (src dst : ByteArray) (f : Int) (hl : l.length ≤ 900000) (h : undAt B w v l) : Calls Try.prog 42 #[v, .agg #[.int .i64 0, .string src, .string dst, .int .i64 f]] w (DoIs w (withoutL l dst ++ [(dst, f)])) := by
  obtain ⟨i0, hi, hz0, hz1, hz2⟩ := info_parts info94
  have hfa : Fresh w (w.alloc (.cells #[.int .i64 0, .string src, .string dst, .int .i64 f] 81)).drew := ((Fresh.refl w).alloc _).drew
  have hfb : Fresh w ((w.alloc (.cells #[.int .i64 0, .string src, .string dst, .int .i64 f] 81)).alloc (.cells #[.string dst, .int .i64 f] 94)).drew := (((Fresh.refl w).alloc _).alloc _).drew
  have HUA := Lib.hid (h.move hfa)
  have HUB := Lib.hid (h.move hfb)
  have HFA := Lib.hid hfa
  have HFB := Lib.hid hfb
  have hlm := withoutL_len l dst
  have hm1 : (withoutL l dst).length + 1 ≤ maxLen := by unfold maxLen; omega
  have hm2 : ((withoutL l dst).length + 1) * 24 ≤ 140737488355328 := by omega
  have HWA : Hid (Calls Try.prog 50 #[v, .string dst] _ (DoIs _ (withoutL l dst))) := without_any v l dst (by omega) HUA.out
  have HWB : Hid (Calls Try.prog 50 #[v, .string dst] _ (DoIs _ (withoutL l dst))) := without_any v l dst (by omega) HUB.out
  clear h hfa hfb HUA HUB
  generalize withoutL l dst = m at *
  go_enter Try.func42, Try.ntmps42
  go_wp2
  go_region_law (first
    | (refine step_append_lies _ rfl (.tmp 13) (.tmp 19) 28 rfl w.heap.size 94 i0 _ 2 24 Try.underlying28 hi hz0 hz1 hz2 rfl (by decide) o m.length (undCells m) (by simp [Act.eval]) HX.out.own ⟨w1.heap.size, 0, none⟩ 1 1 (Und.cells (dst, f)) (by simp [Act.eval]) rfl HX.out.box (und_one _) (by omega) hm1 hm2 HX.out.low _ rfl ?_; intro g cap w2 hown hgrow hat hlt; have HE := Lib.hid (do_out (W := w) HX.out.own HFX.out hown hgrow); clear hown hgrow hat hlt)
    | (refine step_append_lies _ rfl (.tmp 13) (.tmp 19) 28 rfl w.heap.size 94 i0 _ 2 24 Try.underlying28 hi hz0 hz1 hz2 rfl (by decide) o m.length (undCells m) (by simp [Act.eval]) HX.out.own ⟨w.heap.size + 1, 0, none⟩ 1 1 (Und.cells (dst, f)) (by simp [Act.eval]) rfl HX.out.box (und_one _) (by omega) hm1 hm2 HX.out.low _ rfl ?_; intro g cap w2 hown hgrow hat hlt; have HE := Lib.hid (do_out (W := w) HX.out.own HFX.out hown hgrow); clear hown hgrow hat hlt)
    | (go_simp; go_at_call 50; refine HWA.out.mono ?_; rintro e w1 ⟨o, rfl, ho, hf1⟩; have hb1 := hf1.at (at_new w _); have k2 := cell_of_at hb1 (i := 2) rfl; have k3 := cell_of_at hb1 (i := 3) rfl; have HX := Lib.hid (ready_after (B := w.heap.size) (dst, f) (by show w.heap.size ≤ (w.alloc _).heap.size; simp) ho hf1); have HFX := Lib.hid ((HFA.out.trans hf1).alloc (.cells #[.string dst, .int .i64 f] 94)); clear hb1 ho hf1)
    | (go_simp; go_at_call 50; refine HWB.out.mono ?_; rintro e w1 ⟨o, rfl, ho, hf1⟩; have HX := Lib.hid (ready_before (B := w.heap.size) (X := w.heap.size + 1) (dst, f) (by show w.heap.size ≤ ((w.alloc _).alloc _).heap.size; rw [World.size_alloc, World.size_alloc]; omega) (by have := at_new (w.alloc (.cells #[.int .i64 0, .string src, .string dst, .int .i64 f] 81)) (.cells #[.string dst, .int .i64 f] 94); rw [World.size_alloc] at this; exact this) ho hf1); have HFX := Lib.hid (HFB.out.trans hf1); clear ho hf1))
  all_goals
    go_wp2
    go_ret
    exact HE.out
set_option maxRecDepth 100000 in
set_option maxHeartbeats 1000000 in
theorem rdo_gone {B : Nat} (v : Value) (l : List Und) (src dst : ByteArray) (f : Int) (hl : l.length ≤ 900000) (h : undAt B w v l) : Calls Try.prog 42 #[v, .agg #[.int .i64 2, .string src, .string dst, .int .i64 f]] w (DoIs w (withoutL l src)) := by
  have hfa : Fresh w (w.alloc (.cells #[.int .i64 2, .string src, .string dst, .int .i64 f] 81)) := (Fresh.refl w).alloc _
  have HWA : Hid (Calls Try.prog 50 #[v, .string src] _ (DoIs _ (withoutL l src))) := without_any v l src (by omega) (h.move hfa)
  have HFA := Lib.hid hfa
  clear h hfa
  go_enter Try.func42, Try.ntmps42
  go_wp2_with fail
  refine HWA.out.mono ?_
  rintro e w1 ⟨o, rfl, ho, hf1⟩
  have HO := Lib.hid ho
  have HF1 := Lib.hid hf1
  clear ho hf1
  go_wp2
  go_ret
  exact ⟨_, rfl, HO.out.mono (by simp), HFA.out.trans HF1.out⟩
end Go.Proofs.Ytimcoofmemcojaa
