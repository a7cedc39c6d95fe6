/-
  The document's answer for layer 4: SyncDir that is not refused; a struct stored whole into its box.
-/
import Derived.Test.YtimcoofmemcojaaRef6
import Derived.Deep.CutRange
import Derived.Deep.CutBlock
import Derived.Deep.DeepCutAuto
namespace Go.Proofs.Ytimcoofmemcojaa
open Go.ChangeShapes Go.WideShapes Go.ChangeAt Go.RowKit
variable {w : World}
/-- Seven stores into a box: the box holds them, all else is as it was. -/
theorem box_set {w1 : World} {b : Nat} {c0 c1 c2 c3 c4 c5 c6 : Value} (h : RBox w1 b c0 c1 c2 c3 c4 c5 c6) (d0 d1 d2 d3 d4 d5 d6 : Value) :
    RBox (((((((w1.setCell ⟨b, 0, none⟩ d0).setCell ⟨b, 1, none⟩ d1).setCell ⟨b, 2, none⟩ d2).setCell ⟨b, 3, none⟩ d3).setCell ⟨b, 4, none⟩ d4).setCell ⟨b, 5, none⟩ d5).setCell ⟨b, 6, none⟩ d6) b d0 d1 d2 d3 d4 d5 d6 ∧
    w1.grownBy (((((((w1.setCell ⟨b, 0, none⟩ d0).setCell ⟨b, 1, none⟩ d1).setCell ⟨b, 2, none⟩ d2).setCell ⟨b, 3, none⟩ d3).setCell ⟨b, 4, none⟩ d4).setCell ⟨b, 5, none⟩ d5).setCell ⟨b, 6, none⟩ d6) (some b) := by
  refine ⟨⟨?_⟩, ?_⟩
  · simp [World.setCell, Array.getElem?_modify, h.at_]
  · exact grownBy_trans (grownBy_trans (grownBy_trans (grownBy_trans (grownBy_trans (grownBy_trans (grown_set _ b 0 d0) (grown_set _ b 1 d1)) (grown_set _ b 2 d2)) (grown_set _ b 3 d3)) (grown_set _ b 4 d4)) (grown_set _ b 5 d5)) (grown_set _ b 6 d6)
set_option maxRecDepth 100000 in
set_option maxHeartbeats 1000000 in
theorem rsyncdir_ok (r : RSt) (R : RLay) (w : World) (hd : r.down = false) (hz : r.left ≠ 0) (hl : -1 ≤ r.left ∧ r.left ≤ 9223372036854775807) (hst : r.steps ≤ 1000000) :
    Calls Try.prog 25 #[rval r R] w fun e w' => e = .returned (.tuple #[rval r.step.made R.made, .int .i64 0]) ∧ Fresh w w' := by
  have HS := Lib.hid (fun W => rstep_ok r R W hd hz hl hst)
  obtain ⟨fl, nl, sl, wl, left, steps, down⟩ := r
  obtain ⟨fa, fc, na, nc, sa, sc, wa, wc⟩ := R
  dsimp only [rval, RSt.count, RSt.made, RLay.made, RSt.step, List.length_nil] at *
  generalize fl.length = fn at *
  generalize nl.length = nn at *
  generalize sl.length = sn at *
  generalize wl.length = wn at *
  generalize lessOne left = left' at *
  generalize steps + 1 = st at *
  clear hd hz hl hst
  go_enter Try.func25, Try.ntmps25
  go_wp2_with fail
  refine (HS.out _).mono ?_
  rintro e w1 ⟨rfl, hf⟩
  have b1 : RBox w1 w.heap.size _ _ _ _ _ _ _ := ⟨hf.at (at_alloc (at_new w _))⟩
  obtain ⟨⟨p0, p1, p2, p3, p4, p5, p6⟩, ⟨q0, q1, q2, q3, q4, q5, q6⟩⟩ := b1.cells
  have HF := Lib.hid hf
  have HB := Lib.hid b1
  clear hf b1 HS
  have hb2 : w1.heap[w.heap.size + 1]? = some (.cells #[.slice none 0 0, .slice none 0 0, .slice none 0 0, .slice none 0 0, .int .i64 0, .int .i64 0, .bool false] 31 (0, 0)) := HF.out.at (by have := at_new (w.alloc (.cells #[.slice fa fn fc, .slice na nn nc, .slice sa sn sc, .slice wa wn wc, .int .i64 left, .int .i64 steps, .bool down] 31)) (.cells #[.slice none 0 0, .slice none 0 0, .slice none 0 0, .slice none 0 0, .int .i64 0, .int .i64 0, .bool false] 31); rw [World.size_alloc] at this; exact this)
  have H2 := Lib.hid hb2
  clear hb2
  go_upto_region 2 with (fail)
  obtain ⟨hbx, hgx⟩ := box_set HB.out (.slice fa fn fc) (.slice na nn nc) (.slice sa sn sc) (.slice wa wn wc) (.int .i64 left') (.int .i64 st) (.bool false)
  clear p0 p1 p2 p3 p4 p5 p6 q0 q1 q2 q3 q4 q5 q6
  generalize (((((((w1.setCell ⟨w.heap.size, 0, none⟩ (.slice fa fn fc)).setCell ⟨w.heap.size, 1, none⟩ (.slice na nn nc)).setCell ⟨w.heap.size, 2, none⟩ (.slice sa sn sc)).setCell ⟨w.heap.size, 3, none⟩ (.slice wa wn wc)).setCell ⟨w.heap.size, 4, none⟩ (.int .i64 left')).setCell ⟨w.heap.size, 5, none⟩ (.int .i64 st)).setCell ⟨w.heap.size, 6, none⟩ (.bool false)) = w2 at hbx hgx ⊢
  have b2 : RBox w2 (w.heap.size + 1) _ _ _ _ _ _ _ := ⟨(hgx.block _ (lt_of_at H2.out) (by simp)).trans H2.out⟩
  have HFR : Hid (Fresh w w2) := Below.grown ((((Fresh.refl w).alloc _).alloc _).trans HF.out) hgx (((((Fresh.refl w).alloc _).alloc _).trans HF.out).size) (fun k e => by cases e; exact Nat.le_refl _)
  obtain ⟨⟨p0, p1, p2, p3, p4, p5, p6⟩, ⟨q0, q1, q2, q3, q4, q5, q6⟩⟩ := hbx.cells
  obtain ⟨⟨s0, s1, s2, s3, s4, s5, s6⟩, ⟨t0, t1, t2, t3, t4, t5, t6⟩⟩ := b2.cells
  clear hbx hgx b2 HB H2 HF
  go_wp2
  refine bodyPost_ret (v := .tuple #[.agg #[.slice fa fn fc, .slice na nn nc, .slice na nn nc, .slice none 0 0, .int .i64 left', .int .i64 st, .bool false], .int .i64 0]) (by simp [results, Try.results25, go_sem, *]) rfl ⟨rfl, ?_⟩
  repeat (refine Fresh.setCell ?_ (by simp) _)
  exact HFR.out
end Go.Proofs.Ytimcoofmemcojaa
