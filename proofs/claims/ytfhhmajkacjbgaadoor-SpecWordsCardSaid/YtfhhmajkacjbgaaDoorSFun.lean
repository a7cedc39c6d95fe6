/-
  What is wrong with a text, by package spec.
-/
import Derived.Test.YtfhhmajkacjbgaaDoorSFun0
import Derived.Test.YtfhhmajkacjbgaaDoorRead3
namespace Go.Proofs.YtfhhmajkacjbgaaDoor
open Go.ChangeShapes Go.WideShapes Go.ChangeAt Go.RowKit
theorem textFault_any (s : ByteArray) (w : World) (hs : s.size ≤ 1000000) (hT : Tabs w) : Calls Tryd.prog 78 #[.string s] w fun e w' => e = .returned (.int .i64 (textE s)) ∧ Fresh w w' := by
  have HU := Lib.hid (isValid_any s w hs hT)
  have HT : Hid (textE s = if Lib.validD s.data.toList = true then (if 4096 < s.size then 2 else 0) else 10) := rfl
  clear hT
  cases hv : Lib.validD s.data.toList with
  | false =>
    rw [hv] at HU HT
    have HT2 : Hid (textE s = 10) := HT.out
    clear HT hv
    generalize textE s = r at *
    go_enter Tryd.func78, Tryd.ntmps78
    go_wp2_with (fail)
    refine HU.out.mono ?_
    rintro e w1 ⟨rfl, hf⟩
    go_wp2
    go_ret
    exact ⟨ret_int HT2.out.symm, hf⟩
  | true =>
    rw [hv] at HU HT
    by_cases hl : 4096 < s.size
    · have HT2 : Hid (textE s = 2) := by rw [Hid, HT.out, if_pos rfl, if_pos hl]
      clear HT hv
      generalize textE s = r at *
      go_enter Tryd.func78, Tryd.ntmps78
      go_wp2_with (fail)
      refine HU.out.mono ?_
      rintro e w1 ⟨rfl, hf⟩
      have hf := Lib.hid hf
      go_wp2
      all_goals try (exfalso; omega)
      go_ret
      exact ⟨ret_int HT2.out.symm, hf.out⟩
    · have HT2 : Hid (textE s = 0) := by rw [Hid, HT.out, if_pos rfl, if_neg hl]
      clear HT hv
      generalize textE s = r at *
      go_enter Tryd.func78, Tryd.ntmps78
      go_wp2_with (fail)
      refine HU.out.mono ?_
      rintro e w1 ⟨rfl, hf⟩
      have hf := Lib.hid hf
      go_wp2
      all_goals try (exfalso; omega)
      go_ret
      exact ⟨ret_int HT2.out.symm, hf.out⟩
end Go.Proofs.YtfhhmajkacjbgaaDoor
