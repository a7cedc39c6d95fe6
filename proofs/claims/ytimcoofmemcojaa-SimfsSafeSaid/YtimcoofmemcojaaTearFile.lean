/-
  strings.Clone, and what '(*file).tear' leaves of a file.
-/
import Derived.Test.YtimcoofmemcojaaSettle
import Derived.Lib.UnsafeStr
import Derived.Lib.BufferWrite
import Derived.Lib.Walk
import Derived.Deep.OwnRows
import Derived.Laws.IdiomStrings
namespace Go.Proofs.Ytimcoofmemcojaa
open Go.ChangeShapes Go.WideShapes Go.ChangeAt Go.RowKit
theorem info5 : (Try.prog.info? 5).map (fun i => (i.zero, i.size, i.bytes)) = some (some (.int .u8 0), 1, 1) := by kernel_rfl
theorem size5 : (Try.prog.info? 5).map (·.size) = some 1 := by kernel_rfl
theorem cells5 : Try.prog.cellsOf 5 = 1 := by kernel_rfl
/-- The row behind the copy holds just the bytes of s. -/
theorem copied (s : ByteArray) (M : Array Value) (hM : M.size = s.size) : (M.toList.take 0 ++ Lib.byteCells s.data.toList ++ M.toList.drop (0 + s.size)).toArray = (Lib.byteCells s.data.toList).toArray := by
  rw [List.take_zero, List.nil_append, List.drop_of_length_le (by rw [Array.length_toList]; omega), List.append_nil]
set_option maxRecDepth 100000 in
theorem slite_clone (s : ByteArray) (w : World) (hs : s.size ≤ 281474976710656) :
    Calls Try.prog 71 #[.string s] w fun e w' => e = .returned (.string s) ∧ Fresh w w' := by
  by_cases h0 : s.size = 0
  · obtain rfl : s = ⟨#[]⟩ := ByteArray.ext (Array.eq_empty_of_size_eq_zero h0)
    clear h0
    go_enter Try.func71, Try.ntmps71
    go_wp2
    go_ret
    exact ⟨rfl, Fresh.refl _⟩
  · have hmk := fun W => run_make_row' (P := Try.prog) 46 5 (.int .u8 0) 1 Try.underlying46 info5 rfl .i64 .i64 s.size (by omega) (by omega) W
    have hMs : (madeCells #[Value.int .u8 0] s.size).size = s.size := by rw [size_madeCells]
    generalize madeCells #[Value.int .u8 0] s.size = M at hmk hMs
    have hcp := Lib.run_copy_row_string (P := Try.prog) (w.alloc (.cells M 5)) 46 9 3 5 w.heap.size 0 s.size s.size s M 5 Try.underlying46 size5 (heap_alloc_new w _) (Nat.le_refl _) (by omega)
    rw [copied s M hMs] at hcp
    obtain ⟨Y, hY⟩ : ∃ Y, Y = (Lib.byteCells s.data.toList).toArray := ⟨_, rfl⟩
    rw [← hY] at hcp
    have hYs : Y.size = s.size := by rw [hY, List.size_toArray, Lib.byteCells_length, ← Lib.size_eq]
    have hgY : ((w.alloc (.cells M 5)).setRow w.heap.size Y).heap[w.heap.size]? = some (.cells Y 5 (0, 0)) := setRow_heap _ _ M _ 5 (0, 0) (heap_alloc_new w _)
    have hus := Lib.run_unsafeString_row (P := Try.prog) ((w.alloc (.cells M 5)).setRow w.heap.size Y) 130 3 9 5 Try.underlying130 cells5 w.heap.size Y.size (by unfold World.shape?; rw [hgY]) s.data.toList
      (fun e => h0 (by rw [Lib.size_eq, e]; rfl)) (by rw [← Lib.size_eq]; omega) (by rw [← Lib.size_eq]; omega)
      (fun j x hx => Lib.cells_of_row hgY Y.size j _ (by rw [List.take_of_length_le (by rw [Array.length_toList]; exact Nat.le_refl _), hY]; simp [Lib.byteCells, hx]))
    rw [← Lib.size_eq] at hus
    clear hY hgY
    go_enter Try.func71, Try.ntmps71
    go_wp2
    go_ret
    have hb2 : Below w.heap.size (w.alloc (.cells M 5)) ((w.alloc (.cells M 5)).setRow w.heap.size Y) := ⟨rfl, rfl, rfl, by simp, fun k hk => setRow_other _ _ _ _ (by omega)⟩
    exact ⟨rfl, Lib.below_freeze (((Below.refl _ w).alloc (Nat.le_refl _) _).trans hb2) (p := ⟨w.heap.size, 0, none⟩) (Nat.le_refl _) _⟩
theorem clone_any (s : ByteArray) (w : World) (hs : s.size ≤ 281474976710656) :
    Calls Try.prog 56 #[.string s] w fun e w' => e = .returned (.string s) ∧ Fresh w w' := by
  go_enter Try.func56, Try.ntmps56
  go_wp2_with fail
  refine (slite_clone _ _ hs).mono ?_
  rintro e w' ⟨rfl, hg⟩
  go_wp2
  go_ret
  exact ⟨rfl, hg⟩

variable {base : Nat} {w : World}
set_option maxHeartbeats 400000 in
theorem tear_neg (f : Nat) (cut : Int) (h : isFile base w f) (hc : cut < 0) :
    Calls Try.prog 45 #[.pointer (some ⟨f, 0, none⟩), .int .i64 cut] w fun e w' => e = .returned (.tuple #[]) ∧ isFile base w' f ∧ w.grownBy w' (some f) := by
  obtain ⟨hb, c, x, y, hx, hsx, hsy⟩ := h
  obtain ⟨_, q1, q2, _, g1, g2⟩ := hx.cells
  have HX := Lib.hid hx
  have hcn : ¬ 0 ≤ cut := by omega
  clear hx
  go_enter Try.func45, Try.ntmps45
  go_wp2
  go_end0
  exact ⟨rfl, ⟨hb, c, y, y, HX.out.now y, hsy, hsy⟩, grown_set w f 1 (.string y)⟩
theorem ext_size (x : ByteArray) (m : Nat) : (x.extract 0 m).size ≤ x.size := by simp [ByteArray.size_extract]; omega
set_option maxRecDepth 100000 in
set_option maxHeartbeats 1000000 in
theorem tear_pos (f : Nat) (cut : Nat) (h : isFile base w f) (hcm : cut ≤ 9223372036854775807) :
    Calls Try.prog 45 #[.pointer (some ⟨f, 0, none⟩), .int .i64 cut] w fun e w' => e = .returned (.tuple #[]) ∧ isFile base w' f ∧ w.grownBy w' (some f) := by
  obtain ⟨hb, c, x, y, hx, hsx, hsy⟩ := h
  obtain ⟨_, q1, q2, _, g1, g2⟩ := hx.cells
  have hlt := lt_of_at hx
  have HX := Lib.hid hx
  clear hx
  go_enter Try.func45, Try.ntmps45
  go_wp2
  go_region_with (go_at_call 56; refine (clone_any _ _ (Nat.le_trans (ext_size _ _) (by omega))).mono ?_; rintro e w1 ⟨rfl, hg⟩; have hx1 : fileAt w1 f c x y := hg.at HX.out; obtain ⟨_, r1, r2, _, p1, p2⟩ := hx1.cells; have HX1 := Lib.hid hx1; have HG := Lib.hid hg; clear hx1 hg)
  all_goals
    have hsz := ext_size x (min (cut : Int) (x.size : Int)).toNat
    generalize x.extract 0 (min (cut : Int) (x.size : Int)).toNat = z at *
    have h2 : fileAt (w1.setCell ⟨f, 2, none⟩ (.string z)) f c x z := HX1.out.safe z
    have H2 := Lib.hid h2
    have hgr : w.grownBy w1 (some f) := ⟨HG.out.os, HG.out.tape, HG.out.output, HG.out.size, fun k hk _ => HG.out.block k hk⟩
    have HGR := Lib.hid hgr
    clear h2 hgr
    go_wp2
    go_end0
    exact ⟨rfl, ⟨hb, c, z, z, H2.out.now z, by omega, by omega⟩, grownBy_trans (grownBy_trans HGR.out (grown_set w1 f 2 (.string z))) (grown_set _ f 1 (.string z))⟩
theorem tear_any (f : Nat) (cut : Int) (h : isFile base w f) (hcm : cut ≤ 9223372036854775807) :
    Calls Try.prog 45 #[.pointer (some ⟨f, 0, none⟩), .int .i64 cut] w fun e w' => e = .returned (.tuple #[]) ∧ isFile base w' f ∧ w.grownBy w' (some f) := by
  by_cases hc : cut < 0
  · exact tear_neg f cut h hc
  · obtain ⟨n, rfl⟩ : ∃ n : Nat, cut = n := ⟨cut.toNat, by omega⟩
    exact tear_pos f n h (by omega)
end Go.Proofs.Ytimcoofmemcojaa
