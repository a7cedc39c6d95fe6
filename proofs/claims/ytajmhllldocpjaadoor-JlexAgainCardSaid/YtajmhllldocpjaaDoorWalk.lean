/-
  The statement JlexWhole, walked.
-/
import Derived.Test.YtajmhllldocpjaaDoorLex
import Derived.Test.YtajmhllldocpjaaDoorRWhole
import Derived.Test.YtajmhllldocpjaaDoorPieces
namespace Go.Proofs.YtajmhllldocpjaaDoor
open Go.ChangeShapes Go.WideShapes Go.ChangeAt Go.RowKit
attribute [local go_sem ↓] Go.wp_at_zero Go.wp_at_succ
variable {w : World}

theorem lex_one : lexA 4 [91, 49, 93] 0 [] = ([⟨2, [], 0, 0⟩, ⟨10, [], 1, 1⟩, ⟨3, [], 0, 2⟩, ⟨11, [], 0, 3⟩], 0, 0) := by kernel_rfl
set_option maxRecDepth 100000 in
set_option maxHeartbeats 1000000 in
theorem lawake_any (w : World) (hT : Tabs w) (hr : RangeVar w) : Calls Tryd.prog 5 #[] w fun e w' => e = .returned (.bool true) ∧ Fresh w w' := by
  have HL := Lib.hid (lex_any [91, 49, 93] w (by decide) hT hr)
  have hx : lexA ([91, 49, 93] : List UInt8).length.succ [91, 49, 93] 0 [] = ([⟨2, [], 0, 0⟩, ⟨10, [], 1, 1⟩, ⟨3, [], 0, 2⟩, ⟨11, [], 0, 3⟩], 0, 0) := lex_one
  have HX := Lib.hid hx
  have HT := Lib.hid hT
  have HL2 : Hid (Calls Tryd.prog 8 #[.string ⟨#[91, 49, 93]⟩] w (LexIs w ([⟨2, [], 0, 0⟩, ⟨10, [], 1, 1⟩, ⟨3, [], 0, 2⟩, ⟨11, [], 0, 3⟩], 0, 0))) := by
    rw [Hid, ← HX.out]
    exact HL.out
  clear HL hx HX hT hr
  go_enter Tryd.func5, Tryd.ntmps5
  go_wp2_with fail
  refine HL2.out.mono ?_
  rintro e w1 ⟨he, hf1⟩
  rw [if_pos rfl] at he
  obtain ⟨B, g, cap, hB, rfl, hb⟩ := he
  have HF1 := Lib.hid hf1
  have HB := Lib.hid hb
  clear hf1 hb hB
  go_wp2_with fail
  refine (awake_any _ (HT.out.move HF1.out)).mono ?_
  rintro e w2 ⟨rfl, hf2⟩
  have HF2 := Lib.hid (HF1.out.trans hf2)
  have hb := HB.out.fresh hf2
  have c4 : w2.cell? ⟨g, 4, none⟩ = some (.int .i64 10) := World.ownsRow.cells hb rfl 4 _ rfl
  have c5 : w2.cell? ⟨g, 5, none⟩ = some (.string ⟨#[]⟩) := World.ownsRow.cells hb rfl 5 _ rfl
  have c6 : w2.cell? ⟨g, 6, none⟩ = some (.int .i64 1) := World.ownsRow.cells hb rfl 6 _ rfl
  have c7 : w2.cell? ⟨g, 7, none⟩ = some (.int .i64 1) := World.ownsRow.cells hb rfl 7 _ rfl
  have c12 : w2.cell? ⟨g, 12, none⟩ = some (.int .i64 11) := World.ownsRow.cells hb rfl 12 _ rfl
  have c13 : w2.cell? ⟨g, 13, none⟩ = some (.string ⟨#[]⟩) := World.ownsRow.cells hb rfl 13 _ rfl
  have c14 : w2.cell? ⟨g, 14, none⟩ = some (.int .i64 0) := World.ownsRow.cells hb rfl 14 _ rfl
  have c15 : w2.cell? ⟨g, 15, none⟩ = some (.int .i64 3) := World.ownsRow.cells hb rfl 15 _ rfl
  clear hf2 hb
  go_wp2
  go_ret
  exact ⟨rfl, HF2.out⟩
set_option maxRecDepth 100000 in
set_option maxHeartbeats 1000000 in
theorem jlexWhole_main (s : ByteArray) (w : World) (hT : Tabs w) (hr : RangeVar w) : Calls Tryd.prog 3 #[.string s] w fun e w' => e = .returned (.bool true) ∧ Fresh w w' := by
  have HT := Lib.hid hT
  have HR := Lib.hid hr
  have HA : Hid (∀ W, Tabs W → RangeVar W → Calls Tryd.prog 5 #[] W fun e w' => e = .returned (.bool true) ∧ Fresh W w') := fun W h1 h2 => lawake_any W h1 h2
  clear hT hr
  by_cases hs : 300 < s.size
  · have hs' : (300 : Int) < (s.size : Int) := by omega
    go_enter Tryd.func3, Tryd.ntmps3
    go_wp2_with fail
    refine (HA.out _ HT.out HR.out).mono ?_
    rintro e w1 ⟨rfl, hf1⟩
    have HF1 := Lib.hid hf1
    clear hf1
    go_wp2
    go_ret
    exact ⟨rfl, HF1.out⟩
  · have hs' : ¬ (300 : Int) < (s.size : Int) := by omega
    have HW := Lib.hid (fun W h => whole_any s W (by omega) h)
    have HRW := Lib.hid (fun W => rwhole_any s W (by omega))
    generalize wholeV s.data.toList = v at *
    generalize wholeE s.data.toList = x at *
    go_enter Tryd.func3, Tryd.ntmps3
    go_wp2_with fail
    refine (HW.out _ HR.out).mono ?_
    rintro e w1 ⟨rfl, hf1⟩
    have HF1 := Lib.hid hf1
    clear hf1
    go_wp2_with fail
    refine (HRW.out _).mono ?_
    rintro e w' ⟨rfl, rfl⟩
    go_wp2_with fail
    refine (HA.out _ (HT.out.move HF1.out) (HR.out.move HF1.out)).mono ?_
    rintro e w2 ⟨rfl, hf2⟩
    have HF2 := Lib.hid (HF1.out.trans hf2)
    clear hf2
    go_wp2
    go_ret
    exact ⟨rfl, HF2.out⟩
end Go.Proofs.YtajmhllldocpjaaDoor
