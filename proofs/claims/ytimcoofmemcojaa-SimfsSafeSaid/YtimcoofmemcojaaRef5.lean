/-
  The document's answer for layer 4: its state, and a step.
-/
import Derived.Test.YtimcoofmemcojaaRef3
namespace Go.Proofs.Ytimcoofmemcojaa
open Go.ChangeShapes Go.WideShapes Go.ChangeAt Go.RowKit
variable {w : World}

abbrev RFile := ByteArray × ByteArray
def rfCells (l : List RFile) : List Value := l.flatMap fun u => [.string u.1, .string u.2]
structure RDeed where
  kind : Int
  src : ByteArray
  dst : ByteArray
  file : Int
def RDeed.cells (d : RDeed) : List Value := [.int .i64 d.kind, .string d.src, .string d.dst, .int .i64 d.file]
def rdCells (l : List RDeed) : List Value := l.flatMap RDeed.cells
/-- The document's state. -/
structure RSt where
  files : List RFile
  now : List Und
  safe : List Und
  wait : List RDeed
  left : Int
  steps : Nat
  down : Bool
structure RLay where
  fa : Option Addr
  fc : Nat
  na : Option Addr
  nc : Nat
  sa : Option Addr
  sc : Nat
  wa : Option Addr
  wc : Nat
/-- The state lies so in memory. -/
structure RAt (w : World) (r : RSt) (R : RLay) : Prop where
  files : w.ownsRow 0 78 2 (.slice R.fa r.files.length R.fc) r.files.length (rfCells r.files)
  now : undAt 0 w (.slice R.na r.now.length R.nc) r.now
  safe : undAt 0 w (.slice R.sa r.safe.length R.sc) r.safe
  wait : w.ownsRow 0 81 4 (.slice R.wa r.wait.length R.wc) r.wait.length (rdCells r.wait)
abbrev rval (r : RSt) (R : RLay) : Value := .agg #[.slice R.fa r.files.length R.fc, .slice R.na r.now.length R.nc, .slice R.sa r.safe.length R.sc, .slice R.wa r.wait.length R.wc, .int .i64 r.left, .int .i64 r.steps, .bool r.down]
/-- A row's value is a slice of its length. -/
theorem owns_slice {B : Nat} {t : TypeId} {n k : Nat} {w : World} {v : Value} {xs : List Value} (h : w.ownsRow B t k v n xs) : ∃ a c, v = .slice a n c := by
  rcases h.2 with ⟨e1, e2⟩ | ⟨g, cap, cur, e1, _⟩
  · exact ⟨none, 0, by rw [e1, e2]⟩
  · exact ⟨_, _, e1⟩
theorem owns_move {B : Nat} {t : TypeId} {n k : Nat} {w w' : World} {v : Value} {xs : List Value} (h : w.ownsRow B t k v n xs) (f : Fresh w w') : w'.ownsRow B t k v n xs :=
  h.kept (row := none) ⟨f.os, f.tape, f.output, f.size, fun i hi _ => f.block i hi⟩ (by cases hv : v.ownBlock <;> simp)
theorem RAt.move {w w' : World} {r : RSt} {R : RLay} (h : RAt w r R) (f : Fresh w w') : RAt w' r R :=
  ⟨owns_move h.files f, h.now.move f, h.safe.move f, owns_move h.wait f⟩
def RSt.count (r : RSt) (steps : Nat) (left : Int) (down : Bool) : RSt := { r with steps := steps, left := left, down := down }
theorem RAt.count {w : World} {r : RSt} {R : RLay} (h : RAt w r R) (steps : Nat) (left : Int) (down : Bool) : RAt w (r.count steps left down) R := ⟨h.files, h.now, h.safe, h.wait⟩
set_option maxRecDepth 100000 in
set_option maxHeartbeats 400000 in
theorem rstep_down (r : RSt) (R : RLay) (w : World) (hd : r.down = true ∨ r.left = 0) :
    Calls Try.prog 35 #[rval r R] w fun e w' => e = .returned (.tuple #[rval (r.count r.steps r.left true) R, .bool false]) ∧ Fresh w w' := by
  obtain ⟨fl, nl, sl, wl, left, steps, down⟩ := r
  obtain ⟨fa, fc, na, nc, sa, sc, wa, wc⟩ := R
  dsimp only [rval, RSt.count] at *
  generalize fl.length = fn
  generalize nl.length = nn
  generalize sl.length = sn
  generalize wl.length = wn
  by_cases hz : left = 0
  · subst hz
    clear hd
    go_enter Try.func35, Try.ntmps35
    go_wp2
    exact bodyPost_ret (v := .tuple #[.agg #[.slice fa fn fc, .slice na nn nc, .slice sa sn sc, .slice wa wn wc, .int .i64 0, .int .i64 steps, .bool true], .bool false]) (by simp [results, Try.results35, go_sem]) rfl ⟨rfl, (((Fresh.refl w).alloc _).alloc _)⟩
  · have hz' : (left == 0) = false := by simpa using hz
    obtain rfl : down = true := by simpa [hz] using hd
    clear hd hz
    go_enter Try.func35, Try.ntmps35
    go_wp2
    exact bodyPost_ret (v := .tuple #[.agg #[.slice fa fn fc, .slice na nn nc, .slice sa sn sc, .slice wa wn wc, .int .i64 left, .int .i64 steps, .bool true], .bool false]) (by simp [results, Try.results35, go_sem]) rfl ⟨rfl, (((Fresh.refl w).alloc _).alloc _)⟩
set_option maxRecDepth 100000 in
set_option maxHeartbeats 400000 in
theorem rstep_ok (r : RSt) (R : RLay) (w : World) (hd : r.down = false) (hz : r.left ≠ 0) (hl : -1 ≤ r.left ∧ r.left ≤ 9223372036854775807) (hst : r.steps ≤ 1000000) :
    Calls Try.prog 35 #[rval r R] w fun e w' => e = .returned (.tuple #[rval (r.count (r.steps + 1) (lessOne r.left) false) R, .bool true]) ∧ Fresh w w' := by
  obtain ⟨fl, nl, sl, wl, left, steps, down⟩ := r
  obtain ⟨fa, fc, na, nc, sa, sc, wa, wc⟩ := R
  dsimp only [rval, RSt.count] at *
  generalize fl.length = fn
  generalize nl.length = nn
  generalize sl.length = sn
  generalize wl.length = wn
  subst hd
  obtain ⟨l1, l2⟩ := hl
  have hz' : (left == 0) = false := by simpa using hz
  by_cases hp : 0 < left
  · have e : lessOne left = left - 1 := by unfold lessOne; rw [if_pos hp]
    rw [e]
    clear hz e
    go_enter Try.func35, Try.ntmps35
    go_wp2
    exact bodyPost_ret (v := .tuple #[.agg #[.slice fa fn fc, .slice na nn nc, .slice sa sn sc, .slice wa wn wc, .int .i64 (left - 1), .int .i64 ((steps + 1 : Nat) : Int), .bool false], .bool true]) (by simp [results, Try.results35, go_sem]) rfl ⟨rfl, (((Fresh.refl w).alloc _).alloc _)⟩
  · have e : lessOne left = left := by unfold lessOne; rw [if_neg hp]
    rw [e]
    clear hz e
    go_enter Try.func35, Try.ntmps35
    go_wp2
    exact bodyPost_ret (v := .tuple #[.agg #[.slice fa fn fc, .slice na nn nc, .slice sa sn sc, .slice wa wn wc, .int .i64 left, .int .i64 ((steps + 1 : Nat) : Int), .bool false], .bool true]) (by simp [results, Try.results35, go_sem]) rfl ⟨rfl, (((Fresh.refl w).alloc _).alloc _)⟩
end Go.Proofs.Ytimcoofmemcojaa
