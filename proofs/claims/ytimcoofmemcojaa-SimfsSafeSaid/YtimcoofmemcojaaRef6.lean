/-
  The document's answer for layer 4: New, Arm, SyncDir.
-/
import Derived.Test.YtimcoofmemcojaaRef5
namespace Go.Proofs.Ytimcoofmemcojaa
open Go.ChangeShapes Go.WideShapes Go.ChangeAt Go.RowKit
variable {w : World}
def RSt.init : RSt := ⟨[], [], [], [], -1, 0, false⟩
def RLay.nils : RLay := ⟨none, 0, none, 0, none, 0, none, 0⟩
theorem rinit_at (w : World) : RAt w RSt.init RLay.nils := ⟨World.ownsRow_nil _ _ _ _, World.ownsRow_nil _ _ _ _, World.ownsRow_nil _ _ _ _, World.ownsRow_nil _ _ _ _⟩
theorem rnew_any (w : World) : Calls Try.prog 7 #[] w fun e w' => e = .returned (rval RSt.init RLay.nils) ∧ Fresh w w' := by
  go_enter Try.func7, Try.ntmps7
  go_wp2
  exact bodyPost_ret (v := rval RSt.init RLay.nils) (by simp [results, Try.results7, go_sem, rval, RSt.init, RLay.nils]) rfl ⟨rfl, (Fresh.refl w).alloc _⟩
theorem rarm_any (r : RSt) (R : RLay) (w : World) (n : Int) : Calls Try.prog 26 #[rval r R, .int .i64 n] w fun e w' => e = .returned (rval (r.count r.steps (max n (-1)) r.down) R) ∧ Fresh w w' := by
  obtain ⟨fl, nl, sl, wl, left, steps, down⟩ := r
  obtain ⟨fa, fc, na, nc, sa, sc, wa, wc⟩ := R
  dsimp only [rval, RSt.count] at *
  generalize fl.length = fn
  generalize nl.length = nn
  generalize sl.length = sn
  generalize wl.length = wn
  by_cases hn : n < 0
  · have e : max n (-1) = -1 := by omega
    rw [e]
    clear e
    go_enter Try.func26, Try.ntmps26
    go_wp2
    exact bodyPost_ret (v := .agg #[.slice fa fn fc, .slice na nn nc, .slice sa sn sc, .slice wa wn wc, .int .i64 (-1), .int .i64 steps, .bool down]) (by simp [results, Try.results26, go_sem]) rfl ⟨rfl, (((Fresh.refl w).alloc _).alloc _)⟩
  · have e : max n (-1) = n := by omega
    rw [e]
    clear e
    go_enter Try.func26, Try.ntmps26
    go_wp2
    exact bodyPost_ret (v := .agg #[.slice fa fn fc, .slice na nn nc, .slice sa sn sc, .slice wa wn wc, .int .i64 n, .int .i64 steps, .bool down]) (by simp [results, Try.results26, go_sem]) rfl ⟨rfl, (((Fresh.refl w).alloc _).alloc _)⟩
/-- A box that holds a state of the document's: its cells, none of them frozen. -/
structure RBox (w : World) (b : Nat) (c0 c1 c2 c3 c4 c5 c6 : Value) : Prop where
  at_ : w.heap[b]? = some (.cells #[c0, c1, c2, c3, c4, c5, c6] 31 (0, 0))
theorem RBox.cells {w : World} {b : Nat} {c0 c1 c2 c3 c4 c5 c6 : Value} (h : RBox w b c0 c1 c2 c3 c4 c5 c6) :
    (w.cell? ⟨b, 0, none⟩ = some c0 ∧ w.cell? ⟨b, 1, none⟩ = some c1 ∧ w.cell? ⟨b, 2, none⟩ = some c2 ∧ w.cell? ⟨b, 3, none⟩ = some c3 ∧ w.cell? ⟨b, 4, none⟩ = some c4 ∧ w.cell? ⟨b, 5, none⟩ = some c5 ∧ w.cell? ⟨b, 6, none⟩ = some c6) ∧
    (w.frozen? ⟨b, 0, none⟩ = false ∧ w.frozen? ⟨b, 1, none⟩ = false ∧ w.frozen? ⟨b, 2, none⟩ = false ∧ w.frozen? ⟨b, 3, none⟩ = false ∧ w.frozen? ⟨b, 4, none⟩ = false ∧ w.frozen? ⟨b, 5, none⟩ = false ∧ w.frozen? ⟨b, 6, none⟩ = false) := by
  have := h.at_
  simp [World.cell?, World.frozen?, this]
set_option maxRecDepth 100000 in
set_option maxHeartbeats 1000000 in
theorem rsyncdir_down (r : RSt) (R : RLay) (w : World) (hd : r.down = true ∨ r.left = 0) :
    Calls Try.prog 25 #[rval r R] w fun e w' => e = .returned (.tuple #[rval (r.count r.steps r.left true) R, .int .i64 17]) ∧ Fresh w w' := by
  have HS := Lib.hid (fun W => rstep_down r R W hd)
  obtain ⟨fl, nl, sl, wl, left, steps, down⟩ := r
  obtain ⟨fa, fc, na, nc, sa, sc, wa, wc⟩ := R
  dsimp only [rval, RSt.count] at *
  generalize fl.length = fn at *
  generalize nl.length = nn at *
  generalize sl.length = sn at *
  generalize wl.length = wn at *
  clear hd
  go_enter Try.func25, Try.ntmps25
  go_wp2_with fail
  refine (HS.out _).mono ?_
  rintro e w1 ⟨rfl, hf⟩
  have b1 : RBox w1 w.heap.size _ _ _ _ _ _ _ := ⟨hf.at (at_alloc (at_new w _))⟩
  have b2 : RBox w1 (w.heap.size + 1) _ _ _ _ _ _ _ := ⟨hf.at (by have := at_new (w.alloc (.cells #[.slice fa fn fc, .slice na nn nc, .slice sa sn sc, .slice wa wn wc, .int .i64 left, .int .i64 steps, .bool down] 31)) (.cells #[.slice none 0 0, .slice none 0 0, .slice none 0 0, .slice none 0 0, .int .i64 0, .int .i64 0, .bool false] 31); rw [World.size_alloc] at this; exact this)⟩
  obtain ⟨⟨p0, p1, p2, p3, p4, p5, p6⟩, ⟨q0, q1, q2, q3, q4, q5, q6⟩⟩ := b1.cells
  obtain ⟨⟨s0, s1, s2, s3, s4, s5, s6⟩, ⟨t0, t1, t2, t3, t4, t5, t6⟩⟩ := b2.cells
  have HF := Lib.hid hf
  clear hf b1 b2 HS
  go_wp2
  refine bodyPost_ret (v := .tuple #[.agg #[.slice fa fn fc, .slice na nn nc, .slice sa sn sc, .slice wa wn wc, .int .i64 left, .int .i64 steps, .bool true], .int .i64 17]) (by simp [results, Try.results25, go_sem, *]) rfl ⟨rfl, ?_⟩
  repeat (refine Fresh.setCell ?_ (by simp) _)
  exact (((Fresh.refl w).alloc _).alloc _).trans HF.out
def RSt.made (r : RSt) : RSt := { r with safe := r.now, wait := [] }
def RLay.made (R : RLay) : RLay := { R with sa := R.na, sc := R.nc, wa := none, wc := 0 }
theorem RAt.made {w : World} {r : RSt} {R : RLay} (h : RAt w r R) : RAt w r.made R.made := ⟨h.files, h.now, h.now, World.ownsRow_nil _ _ _ _⟩
def RSt.step (r : RSt) : RSt := r.count (r.steps + 1) (lessOne r.left) false
end Go.Proofs.Ytimcoofmemcojaa
