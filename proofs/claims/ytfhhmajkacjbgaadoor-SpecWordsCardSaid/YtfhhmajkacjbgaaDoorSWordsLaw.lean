/-
  bosunlaw14.SpecWords, walked.
-/
import Derived.Test.YtfhhmajkacjbgaaDoorSStr
import Derived.Test.YtfhhmajkacjbgaaDoorSAwake
namespace Go.Proofs.YtfhhmajkacjbgaaDoor
open Go.ChangeShapes Go.WideShapes Go.ChangeAt Go.RowKit
attribute [local go_sem ↓] Go.wp_at_zero Go.wp_at_succ

theorem placeA_cases : ∀ (l : List ByteArray) (k : Nat) (s : ByteArray), placeA k l s = -1 ∨ ∃ j : Nat, placeA k l s = (j : Int)
  | [], _, _ => .inl rfl
  | t :: r, k, s => by
    rw [placeA]
    split
    · exact .inr ⟨k, rfl⟩
    · exact placeA_cases r (k + 1) s
theorem placeI_cases (l : List ByteArray) (s : ByteArray) : placeI l s = -1 ∨ ∃ j : Nat, placeI l s = (j : Int) := placeA_cases l 0 s
set_option maxRecDepth 100000 in
set_option maxHeartbeats 4000000 in
theorem words_walk (n : Int) (s : ByteArray) (w : World) (hT : Tabs w) (hW : Words w) (hn : (Lit.int .i64 n).wf = true) (hs : s.size ≤ maxLen) :
    Calls Tryd.prog 4 #[.int .i64 n, .string s] w fun e w' => e = .returned (.bool true) ∧ Fresh w w' := by
  have HT := Lib.hid hT
  have HW := Lib.hid hW
  have HN := Lib.hid hn
  have HAW := Lib.hid (fun W (f : Fresh w W) => awake14_any W (HT.out.move f))
  clear hT hW hn
  unfold maxLen at hs
  by_cases hl : 100 < s.size
  · go_enter Tryd.func4, Tryd.ntmps4
    go_wp2_with (fail)
    all_goals try (exfalso; omega)
    refine (HAW.out _ (Fresh.refl _)).mono ?_
    rintro e W1 ⟨rfl, hf⟩
    go_wp2
    go_ret
    exact ⟨rfl, hf⟩
  have HRS := Lib.hid (restarts_any s w HW.out)
  have HPS := Lib.hid (protos_any s w HW.out)
  have HRR := Lib.hid (fun W => rrestarts_any W)
  have HRP := Lib.hid (fun W => rprotos_any W)
  have HPR := Lib.hid (fun W a (h : RowAt W a (tcells restartL)) => rplace_any restartL a 3 s W h (by decide))
  have HPP := Lib.hid (fun W a (h : RowAt W a (tcells protoL)) => rplace_any protoL a 2 s W h (by decide))
  have HWR := Lib.hid (fun W a (h : RowAt W a (tcells restartL)) => rword_any restartL a 3 n W h HN.out)
  have HWP := Lib.hid (fun W a (h : RowAt W a (tcells protoL)) => rword_any protoL a 2 n W h HN.out)
  have HSR := Lib.hid (fun W (f : Fresh w W) => strR_any n W (HW.out.move f))
  have HSP := Lib.hid (fun W (f : Fresh w W) => strP_any n W (HW.out.move f))
  rw [show restartL.length = 3 from rfl] at HPR HWR
  rw [show protoL.length = 2 from rfl] at HPP HWP
  have HX : Hid (atL restartL s = if 0 ≤ placeI restartL s then placeI restartL s else 0) := rfl
  have HY : Hid (atL protoL s = if 0 ≤ placeI protoL s then placeI protoL s else 0) := rfl
  have HCX := Lib.hid (placeI_cases restartL s)
  have HCY := Lib.hid (placeI_cases protoL s)
  clear HN HW
  generalize atL restartL s = ax at *
  generalize atL protoL s = ay at *
  generalize placeI restartL s = x at *
  generalize placeI protoL s = y at *
  generalize wordS restartL n = wx at *
  generalize wordS protoL n = wy at *
  rcases HCX.out with rfl | ⟨kx, rfl⟩
  all_goals rcases HCY.out with rfl | ⟨ky, rfl⟩
  · have hax : ax = 0 := HX.out
    have hay : ay = 0 := HY.out
    subst hax hay
    rw [show decide ((0 : Int) ≤ -1) = false from rfl] at HRS
    rw [show decide ((0 : Int) ≤ -1) = false from rfl] at HPS
    clear HX HY HCX HCY
    have hq1 : ∀ W : World, (binOp .geq 3 (.int .i64 (-1)) (.int .i64 0)).run Tryd.prog W = .ok (.bool false) W := fun W => by kernel_rfl
    have hq2 : ∀ (W : World) (ts : Array TypeId) (t : TypeId), (Builtin.max_ ts t #[.int .i64 (-1), .int .i64 0]).run Tryd.prog W = .ok (.int .i64 0) W := fun W ts t => by rw [run_max_int2]; rfl
    have hq3 : ∀ W : World, (binOp .neq 4 (.bool false) (.bool false)).run Tryd.prog W = .ok (.bool false) W := fun W => by kernel_rfl
    have hq4 : ∀ W : World, (binOp .neq 3 (.int .i64 0) (.int .i64 0)).run Tryd.prog W = .ok (.bool false) W := fun W => by kernel_rfl
    go_enter Tryd.func4, Tryd.ntmps4
    go_wp2_with (fail)
    all_goals try (exfalso; omega)
    refine HRS.out.mono ?_
    rintro e W1 ⟨rfl, rfl⟩
    go_wp2_with (fail)
    refine HPS.out.mono ?_
    rintro e W1 ⟨rfl, rfl⟩
    go_wp2_with (fail)
    refine (HRR.out _).mono ?_
    rintro e W1 ⟨rfl, hr1, hf1⟩
    have HF1 := Lib.hid hf1
    have HR1 := Lib.hid hr1
    clear hf1 hr1
    go_wp2_with (fail)
    refine (HPR.out _ _ HR1.out).mono ?_
    rintro e W2 ⟨rfl, rfl⟩
    go_wp2_with (fail)
    refine (HRP.out _).mono ?_
    rintro e W2 ⟨rfl, hr1, hf1⟩
    have HF2 := Lib.hid (HF1.out.trans hf1)
    have HR2 := Lib.hid hr1
    clear hf1 hr1
    go_wp2_with (fail)
    refine (HPP.out _ _ HR2.out).mono ?_
    rintro e W3 ⟨rfl, rfl⟩
    go_wp2_with (fail)
    all_goals try (exfalso; omega)
    refine (HAW.out _ HF2.out).mono ?_
    rintro e W4 ⟨rfl, hf⟩
    have HF4 := Lib.hid (HF2.out.trans hf)
    clear hf
    go_wp2_with (fail)
    refine (HSR.out _ HF4.out).mono ?_
    rintro e W5 ⟨rfl, rfl⟩
    go_wp2_with (fail)
    refine (HRR.out _).mono ?_
    rintro e W5 ⟨rfl, hr1, hf1⟩
    have HF5 := Lib.hid (HF4.out.trans hf1)
    have HR5 := Lib.hid hr1
    clear hf1 hr1
    go_wp2_with (fail)
    refine (HWR.out _ _ HR5.out).mono ?_
    rintro e W6 ⟨rfl, rfl⟩
    go_wp2_with (fail)
    refine (HSP.out _ HF5.out).mono ?_
    rintro e W6 ⟨rfl, rfl⟩
    go_wp2_with (fail)
    refine (HRP.out _).mono ?_
    rintro e W6 ⟨rfl, hr1, hf1⟩
    have HF6 := Lib.hid (HF5.out.trans hf1)
    have HR6 := Lib.hid hr1
    clear hf1 hr1
    go_wp2_with (fail)
    refine (HWP.out _ _ HR6.out).mono ?_
    rintro e W7 ⟨rfl, rfl⟩
    go_wp2
    go_ret
    exact ⟨rfl, HF6.out⟩
  · have hax : ax = 0 := HX.out
    have hay : ay = (ky : Int) := by rw [HY.out, if_pos (by omega)]
    subst hax hay
    rw [show decide ((0 : Int) ≤ -1) = false from rfl] at HRS
    rw [decide_eq_true (show (0 : Int) ≤ (ky : Int) by omega)] at HPS
    clear HX HY HCX HCY
    have hq1 : ∀ W : World, (binOp .geq 3 (.int .i64 (-1)) (.int .i64 0)).run Tryd.prog W = .ok (.bool false) W := fun W => by kernel_rfl
    have hq2 : ∀ (W : World) (ts : Array TypeId) (t : TypeId), (Builtin.max_ ts t #[.int .i64 (-1), .int .i64 0]).run Tryd.prog W = .ok (.int .i64 0) W := fun W ts t => by rw [run_max_int2]; rfl
    have hq3 : ∀ W : World, (binOp .neq 4 (.bool false) (.bool false)).run Tryd.prog W = .ok (.bool false) W := fun W => by kernel_rfl
    have hq4 : ∀ W : World, (binOp .neq 3 (.int .i64 0) (.int .i64 0)).run Tryd.prog W = .ok (.bool false) W := fun W => by kernel_rfl
    go_enter Tryd.func4, Tryd.ntmps4
    go_wp2_with (fail)
    all_goals try (exfalso; omega)
    refine HRS.out.mono ?_
    rintro e W1 ⟨rfl, rfl⟩
    go_wp2_with (fail)
    refine HPS.out.mono ?_
    rintro e W1 ⟨rfl, rfl⟩
    go_wp2_with (fail)
    refine (HRR.out _).mono ?_
    rintro e W1 ⟨rfl, hr1, hf1⟩
    have HF1 := Lib.hid hf1
    have HR1 := Lib.hid hr1
    clear hf1 hr1
    go_wp2_with (fail)
    refine (HPR.out _ _ HR1.out).mono ?_
    rintro e W2 ⟨rfl, rfl⟩
    go_wp2_with (fail)
    refine (HRP.out _).mono ?_
    rintro e W2 ⟨rfl, hr1, hf1⟩
    have HF2 := Lib.hid (HF1.out.trans hf1)
    have HR2 := Lib.hid hr1
    clear hf1 hr1
    go_wp2_with (fail)
    refine (HPP.out _ _ HR2.out).mono ?_
    rintro e W3 ⟨rfl, rfl⟩
    go_wp2_with (fail)
    all_goals try (exfalso; omega)
    refine (HAW.out _ HF2.out).mono ?_
    rintro e W4 ⟨rfl, hf⟩
    have HF4 := Lib.hid (HF2.out.trans hf)
    clear hf
    go_wp2_with (fail)
    refine (HSR.out _ HF4.out).mono ?_
    rintro e W5 ⟨rfl, rfl⟩
    go_wp2_with (fail)
    refine (HRR.out _).mono ?_
    rintro e W5 ⟨rfl, hr1, hf1⟩
    have HF5 := Lib.hid (HF4.out.trans hf1)
    have HR5 := Lib.hid hr1
    clear hf1 hr1
    go_wp2_with (fail)
    refine (HWR.out _ _ HR5.out).mono ?_
    rintro e W6 ⟨rfl, rfl⟩
    go_wp2_with (fail)
    refine (HSP.out _ HF5.out).mono ?_
    rintro e W6 ⟨rfl, rfl⟩
    go_wp2_with (fail)
    refine (HRP.out _).mono ?_
    rintro e W6 ⟨rfl, hr1, hf1⟩
    have HF6 := Lib.hid (HF5.out.trans hf1)
    have HR6 := Lib.hid hr1
    clear hf1 hr1
    go_wp2_with (fail)
    refine (HWP.out _ _ HR6.out).mono ?_
    rintro e W7 ⟨rfl, rfl⟩
    go_wp2
    go_ret
    exact ⟨rfl, HF6.out⟩
  · have hax : ax = (kx : Int) := by rw [HX.out, if_pos (by omega)]
    have hay : ay = 0 := HY.out
    subst hax hay
    rw [decide_eq_true (show (0 : Int) ≤ (kx : Int) by omega)] at HRS
    rw [show decide ((0 : Int) ≤ -1) = false from rfl] at HPS
    clear HX HY HCX HCY
    go_enter Tryd.func4, Tryd.ntmps4
    go_wp2_with (fail)
    all_goals try (exfalso; omega)
    refine HRS.out.mono ?_
    rintro e W1 ⟨rfl, rfl⟩
    go_wp2_with (fail)
    refine HPS.out.mono ?_
    rintro e W1 ⟨rfl, rfl⟩
    go_wp2_with (fail)
    refine (HRR.out _).mono ?_
    rintro e W1 ⟨rfl, hr1, hf1⟩
    have HF1 := Lib.hid hf1
    have HR1 := Lib.hid hr1
    clear hf1 hr1
    go_wp2_with (fail)
    refine (HPR.out _ _ HR1.out).mono ?_
    rintro e W2 ⟨rfl, rfl⟩
    go_wp2_with (fail)
    refine (HRP.out _).mono ?_
    rintro e W2 ⟨rfl, hr1, hf1⟩
    have HF2 := Lib.hid (HF1.out.trans hf1)
    have HR2 := Lib.hid hr1
    clear hf1 hr1
    go_wp2_with (fail)
    refine (HPP.out _ _ HR2.out).mono ?_
    rintro e W3 ⟨rfl, rfl⟩
    go_wp2_with (fail)
    all_goals try (exfalso; omega)
    refine (HAW.out _ HF2.out).mono ?_
    rintro e W4 ⟨rfl, hf⟩
    have HF4 := Lib.hid (HF2.out.trans hf)
    clear hf
    go_wp2_with (fail)
    refine (HSR.out _ HF4.out).mono ?_
    rintro e W5 ⟨rfl, rfl⟩
    go_wp2_with (fail)
    refine (HRR.out _).mono ?_
    rintro e W5 ⟨rfl, hr1, hf1⟩
    have HF5 := Lib.hid (HF4.out.trans hf1)
    have HR5 := Lib.hid hr1
    clear hf1 hr1
    go_wp2_with (fail)
    refine (HWR.out _ _ HR5.out).mono ?_
    rintro e W6 ⟨rfl, rfl⟩
    go_wp2_with (fail)
    refine (HSP.out _ HF5.out).mono ?_
    rintro e W6 ⟨rfl, rfl⟩
    go_wp2_with (fail)
    refine (HRP.out _).mono ?_
    rintro e W6 ⟨rfl, hr1, hf1⟩
    have HF6 := Lib.hid (HF5.out.trans hf1)
    have HR6 := Lib.hid hr1
    clear hf1 hr1
    go_wp2_with (fail)
    refine (HWP.out _ _ HR6.out).mono ?_
    rintro e W7 ⟨rfl, rfl⟩
    go_wp2
    go_ret
    exact ⟨rfl, HF6.out⟩
  · have hax : ax = (kx : Int) := by rw [HX.out, if_pos (by omega)]
    have hay : ay = (ky : Int) := by rw [HY.out, if_pos (by omega)]
    subst hax hay
    rw [decide_eq_true (show (0 : Int) ≤ (kx : Int) by omega)] at HRS
    rw [decide_eq_true (show (0 : Int) ≤ (ky : Int) by omega)] at HPS
    clear HX HY HCX HCY
    go_enter Tryd.func4, Tryd.ntmps4
    go_wp2_with (fail)
    all_goals try (exfalso; omega)
    refine HRS.out.mono ?_
    rintro e W1 ⟨rfl, rfl⟩
    go_wp2_with (fail)
    refine HPS.out.mono ?_
    rintro e W1 ⟨rfl, rfl⟩
    go_wp2_with (fail)
    refine (HRR.out _).mono ?_
    rintro e W1 ⟨rfl, hr1, hf1⟩
    have HF1 := Lib.hid hf1
    have HR1 := Lib.hid hr1
    clear hf1 hr1
    go_wp2_with (fail)
    refine (HPR.out _ _ HR1.out).mono ?_
    rintro e W2 ⟨rfl, rfl⟩
    go_wp2_with (fail)
    refine (HRP.out _).mono ?_
    rintro e W2 ⟨rfl, hr1, hf1⟩
    have HF2 := Lib.hid (HF1.out.trans hf1)
    have HR2 := Lib.hid hr1
    clear hf1 hr1
    go_wp2_with (fail)
    refine (HPP.out _ _ HR2.out).mono ?_
    rintro e W3 ⟨rfl, rfl⟩
    go_wp2_with (fail)
    all_goals try (exfalso; omega)
    refine (HAW.out _ HF2.out).mono ?_
    rintro e W4 ⟨rfl, hf⟩
    have HF4 := Lib.hid (HF2.out.trans hf)
    clear hf
    go_wp2_with (fail)
    refine (HSR.out _ HF4.out).mono ?_
    rintro e W5 ⟨rfl, rfl⟩
    go_wp2_with (fail)
    refine (HRR.out _).mono ?_
    rintro e W5 ⟨rfl, hr1, hf1⟩
    have HF5 := Lib.hid (HF4.out.trans hf1)
    have HR5 := Lib.hid hr1
    clear hf1 hr1
    go_wp2_with (fail)
    refine (HWR.out _ _ HR5.out).mono ?_
    rintro e W6 ⟨rfl, rfl⟩
    go_wp2_with (fail)
    refine (HSP.out _ HF5.out).mono ?_
    rintro e W6 ⟨rfl, rfl⟩
    go_wp2_with (fail)
    refine (HRP.out _).mono ?_
    rintro e W6 ⟨rfl, hr1, hf1⟩
    have HF6 := Lib.hid (HF5.out.trans hf1)
    have HR6 := Lib.hid hr1
    clear hf1 hr1
    go_wp2_with (fail)
    refine (HWP.out _ _ HR6.out).mono ?_
    rintro e W7 ⟨rfl, rfl⟩
    go_wp2
    go_ret
    exact ⟨rfl, HF6.out⟩
end Go.Proofs.YtfhhmajkacjbgaaDoor
