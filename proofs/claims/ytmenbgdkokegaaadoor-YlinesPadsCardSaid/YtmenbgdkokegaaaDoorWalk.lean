/-
  The document's example; the statement YlinesCut, walked.
-/
import Derived.Test.YtmenbgdkokegaaaDoorRefCut
import Derived.Test.YtmenbgdkokegaaaDoorPieces
namespace Go.Proofs.YtmenbgdkokegaaaDoor
open Go.ChangeShapes Go.WideShapes Go.ChangeAt Go.RowKit
attribute [local go_sem ↓] Go.wp_at_zero Go.wp_at_succ
variable {w : World}

theorem cut_one : cutL V [45, 32, 97, 58, 32, 49, 32, 35, 32, 120] = ([⟨0, 0, true, []⟩, ⟨0, 2, false, [97, 58, 32, 49]⟩], 0, 0) := by kernel_rfl
set_option maxRecDepth 100000 in
set_option maxHeartbeats 1000000 in
theorem lawake_any (w : World) (hT : Tabs w) : Calls Tryd.prog 5 #[] w fun e w' => e = .returned (.bool true) ∧ Fresh w w' := by
  have h0 := cutM_any [45, 32, 97, 58, 32, 49, 32, 35, 32, 120] w (by decide) hT
  rw [cut_one] at h0
  have HL2 : Hid (Calls Tryd.prog 6 #[.string ⟨#[45, 32, 97, 58, 32, 49, 32, 35, 32, 120]⟩] w (CutIs w ([⟨0, 0, true, []⟩, ⟨0, 2, false, [97, 58, 32, 49]⟩], 0, 0))) := h0
  have HT := Lib.hid hT
  clear h0 hT
  go_enter Tryd.func5, Tryd.ntmps5
  go_wp2_with fail
  refine HL2.out.mono ?_
  rintro e w1 ⟨v, rfl, hb, hf1⟩
  have HF1 := Lib.hid hf1
  obtain ⟨g, cap, rfl⟩ := ownsRow_succ (k := 1) hb
  have HB := Lib.hid hb
  clear hf1 hb
  go_wp2_with fail
  refine (awake_any _ (HT.out.move HF1.out)).mono ?_
  rintro e w2 ⟨rfl, hf2⟩
  have HF2 := Lib.hid (HF1.out.trans hf2)
  have hb := HB.out.fresh hf2
  have c0 : w2.cell? ⟨g, 0, none⟩ = some (.int .i64 0) := hb.cell 0 (by decide) 0 (by decide) rfl
  have c1 : w2.cell? ⟨g, 1, none⟩ = some (.int .i64 0) := hb.cell 0 (by decide) 1 (by decide) rfl
  have c2 : w2.cell? ⟨g, 2, none⟩ = some (.bool true) := hb.cell 0 (by decide) 2 (by decide) rfl
  have c3 : w2.cell? ⟨g, 3, none⟩ = some (.string ⟨#[]⟩) := hb.cell 0 (by decide) 3 (by decide) rfl
  have c4 : w2.cell? ⟨g, 4, none⟩ = some (.int .i64 0) := hb.cell 1 (by decide) 0 (by decide) rfl
  have c5 : w2.cell? ⟨g, 5, none⟩ = some (.int .i64 2) := hb.cell 1 (by decide) 1 (by decide) rfl
  have c6 : w2.cell? ⟨g, 6, none⟩ = some (.bool false) := hb.cell 1 (by decide) 2 (by decide) rfl
  have c7 : w2.cell? ⟨g, 7, none⟩ = some (.string ⟨#[97, 58, 32, 49]⟩) := hb.cell 1 (by decide) 3 (by decide) rfl
  clear hf2 hb
  go_wp2
  go_ret
  exact ⟨rfl, HF2.out⟩
end Go.Proofs.YtmenbgdkokegaaaDoor
