/-
  Texts: whether they are valid, and what is wrong with them, by package value and by the document.
-/
import Derived.Test.YtonakfkiidhebaaDoorBase
import Derived.Test.YtonakfkiidhebaaDoorShelf
import Derived.Deep.DeepCutAuto
import Derived.Deep.CutRange
import Derived.Deep.CutBlock
namespace Go.Proofs.YtonakfkiidhebaaDoor
open Go.ChangeShapes Go.WideShapes Go.ChangeAt Go.RowKit
variable {w : World}

/-- The library's tables lie as its text lays them. -/
def Tabs (w : World) : Prop := Lib.Utf8Tabs (Tryd.laysValid_ren.g 3) (Tryd.laysValid_ren.g 4) w
theorem Tabs.move {w w' : World} (h : Tabs w) (f : Fresh w w') : Tabs w' := Utf8Tabs_below h f
theorem ret_int {k : IntKind} {a b : Int} (h : a = b) : Ending.returned (.int k a) = .returned (.int k b) := by rw [h]
theorem ret_bool {a b : Bool} (h : a = b) : Ending.returned (.bool a) = .returned (.bool b) := by rw [h]
theorem valid_any (s : ByteArray) (w : World) (hs : s.size ≤ 1000000) (hT : Tabs w) : Calls Tryd.prog 45 #[.string s] w fun e w' => e = .returned (.bool (Lib.validD s.data.toList)) ∧ Fresh w w' :=
  Any.utf8_ValidString Tryd.laysValid s w (by omega) hT
theorem textFault_any (s : ByteArray) (w : World) (hs : s.size ≤ 1000000) (hT : Tabs w) : Calls Tryd.prog 42 #[.string s] w fun e w' => e = .returned (.int .i64 (textW s)) ∧ Fresh w w' := by
  have HV := Lib.hid (valid_any s w hs hT)
  clear hT
  unfold textW
  generalize Lib.validD s.data.toList = b at *
  cases b with
  | false =>
    go_enter Tryd.func42, Tryd.ntmps42
    go_wp2_with fail
    refine HV.out.mono ?_
    rintro e w1 ⟨rfl, hf⟩
    go_wp2
    go_ret
    exact ⟨rfl, hf⟩
  | true =>
    by_cases hl : 4096 < s.size
    · have H : Hid ((if true = true then (if 4096 < s.size then (2 : Int) else 0) else 10) = 2) := by rw [Hid, if_pos rfl, if_pos hl]
      rw [H.out]
      go_enter Tryd.func42, Tryd.ntmps42
      go_wp2_with fail
      refine HV.out.mono ?_
      rintro e w1 ⟨rfl, hf⟩
      go_wp2
      go_ret
      exact ⟨rfl, hf⟩
    · have H : Hid ((if true = true then (if 4096 < s.size then (2 : Int) else 0) else 10) = 0) := by rw [Hid, if_pos rfl, if_neg hl]
      rw [H.out]
      go_enter Tryd.func42, Tryd.ntmps42
      go_wp2_with fail
      refine HV.out.mono ?_
      rintro e w1 ⟨rfl, hf⟩
      go_wp2
      go_ret
      exact ⟨rfl, hf⟩
end Go.Proofs.YtonakfkiidhebaaDoor
