/-
  Package ylines: what may stand in a line.
-/
import Derived.Test.YtmenbgdkokegaaaDoorSmall
import Derived.Test.YtmenbgdkokegaaaDoorRead3
namespace Go.Proofs.YtmenbgdkokegaaaDoor
open Go.ChangeShapes Go.WideShapes Go.ChangeAt Go.RowKit
attribute [local go_sem ↓] Go.wp_at_zero Go.wp_at_succ
variable {w : World}

set_option maxRecDepth 100000 in
set_option maxHeartbeats 1000000 in
theorem may_any (s : ByteArray) (w : World) (hs : s.size ≤ 1000000) (hT : Tabs w) : Calls Tryd.prog 10 #[.string s] w fun e w' => e = .returned (.bool (!badL Lib.validD s.data.toList)) ∧ Fresh w w' := by
  have HU := Lib.hid (valid19_any s w hs hT)
  have hll : s.data.toList.length = s.size := by simp
  have HLL := Lib.hid hll
  clear hll hT
  go_enter Tryd.func10, Tryd.ntmps10
  go_wp2
  go_loop [6] (fun a6 => ∃ k : Nat, k ≤ s.size ∧ a6 = .int .i64 k ∧ Hid (lowB s.data.toList = lowB (s.data.toList.drop k))) (fun a6 => s.size - (intOf a6).toNat)
  case atStart => exact ⟨0, by omega, rfl, rfl⟩
  case round =>
    obtain ⟨i, hi, rfl, HI⟩ := hrel
    by_cases hlt : i < s.size
    · have HL' : Hid (i < s.data.toList.length) := by rw [Hid, HLL.out]; exact hlt
      have HB : Hid (s.data.toList[i]'HL'.out = s[i]'hlt) := rfl
      by_cases c32 : s[i].toNat < 32
      · have x32 : (s[i].toNat : Int) < 32 := by omega
        have HN := Lib.hid (badL_low Lib.validD (lowB_hit _ i HL'.out (by rw [HB.out]; exact c32) HI.out))
        clear c32
        go_wp2
        go_ret
        exact ⟨by rw [HN.out]; rfl, Fresh.refl _⟩
      · have x32 : ¬ (s[i].toNat : Int) < 32 := by omega
        have HN := Lib.hid (lowB_step _ i HL'.out (by rw [HB.out]; omega) HI.out)
        clear c32
        go_wp2
        go_round
        case rel => exact ⟨i + 1, by omega, by simp, HN.out⟩
        case measure => simp [intOf]; omega
    · have HLO := Lib.hid (badL_of Lib.validD (lowB_end _ i (by rw [HLL.out]; omega) HI.out))
      have hge : ¬ (i : Int) < (s.size : Int) := by omega
      go_wp2_with (fail)
      refine HU.out.mono ?_
      rintro e w' ⟨rfl, hf⟩
      have HF := Lib.hid hf
      clear hf
      go_wp2
      go_ret
      exact ⟨by rw [HLO.out, Bool.not_not]; rfl, HF.out⟩
end Go.Proofs.YtmenbgdkokegaaaDoor
