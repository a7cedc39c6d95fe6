/-
  The words of a Restart and a Proto, and those of a word, by package spec.
-/
import Derived.Test.YtfhhmajkacjbgaaDoorSFun0
import Derived.Test.YtfhhmajkacjbgaaDoorSWords
namespace Go.Proofs.YtfhhmajkacjbgaaDoor
open Go.ChangeShapes Go.WideShapes Go.ChangeAt Go.RowKit

/-- The words' tables lie as their text lays them. -/
structure Words (w : World) : Prop where
  r0 : w.cell? ⟨0, 0, none⟩ = some (.string ⟨#[97, 108, 119, 97, 121, 115]⟩)
  r1 : w.cell? ⟨0, 1, none⟩ = some (.string ⟨#[111, 110, 45, 102, 97, 105, 108, 117, 114, 101]⟩)
  r2 : w.cell? ⟨0, 2, none⟩ = some (.string ⟨#[110, 101, 118, 101, 114]⟩)
  p0 : w.cell? ⟨1, 0, none⟩ = some (.string ⟨#[116, 99, 112]⟩)
  p1 : w.cell? ⟨1, 1, none⟩ = some (.string ⟨#[117, 100, 112]⟩)
theorem Words.move {w w' : World} (h : Words w) (f : Fresh w w') : Words w' := ⟨f.cell h.r0, f.cell h.r1, f.cell h.r2, f.cell h.p0, f.cell h.p1⟩
/-- Which place a word is told to have, and whether it has one. -/
def atL (l : List ByteArray) (s : ByteArray) : Int := if 0 ≤ placeI l s then placeI l s else 0
set_option maxRecDepth 100000 in
set_option maxHeartbeats 1000000 in
theorem restarts_any (s : ByteArray) (w : World) (hW : Words w) : Calls Tryd.prog 15 #[.string s] w fun e w' => e = .returned (.tuple #[.int .i64 (atL restartL s), .bool (decide (0 ≤ placeI restartL s))]) ∧ w = w' := by
  have c0 := hW.r0
  have c1 := hW.r1
  have c2 := hW.r2
  have HY0 : Hid (s = ⟨#[97, 108, 119, 97, 121, 115]⟩ → atL restartL s = 0 ∧ decide (0 ≤ placeI restartL s) = true) := fun e => by subst e; decide +kernel
  have HY1 : Hid (s = ⟨#[111, 110, 45, 102, 97, 105, 108, 117, 114, 101]⟩ → atL restartL s = 1 ∧ decide (0 ≤ placeI restartL s) = true) := fun e => by subst e; decide +kernel
  have HY2 : Hid (s = ⟨#[110, 101, 118, 101, 114]⟩ → atL restartL s = 2 ∧ decide (0 ≤ placeI restartL s) = true) := fun e => by subst e; decide +kernel
  have HNO : Hid (s ≠ ⟨#[97, 108, 119, 97, 121, 115]⟩ → s ≠ ⟨#[111, 110, 45, 102, 97, 105, 108, 117, 114, 101]⟩ → s ≠ ⟨#[110, 101, 118, 101, 114]⟩ → atL restartL s = 0 ∧ decide (0 ≤ placeI restartL s) = false) := fun h0 h1 h2 => by
    have : placeI restartL s = -1 := by
      unfold placeI restartL
      rw [placeA, if_neg (Ne.symm h0)]
      rw [placeA, if_neg (Ne.symm h1)]
      rw [placeA, if_neg (Ne.symm h2)]
      rfl
    unfold atL
    rw [this]
    decide
  clear hW
  have x0 : ∀ W : World, (Instr.index 79 (.agg #[.string ⟨#[97, 108, 119, 97, 121, 115]⟩, .string ⟨#[111, 110, 45, 102, 97, 105, 108, 117, 114, 101]⟩, .string ⟨#[110, 101, 118, 101, 114]⟩]) (.int .i64 0)).run Tryd.prog W = .ok (.string ⟨#[97, 108, 119, 97, 121, 115]⟩) W := fun W => by kernel_rfl
  have x1 : ∀ W : World, (Instr.index 79 (.agg #[.string ⟨#[97, 108, 119, 97, 121, 115]⟩, .string ⟨#[111, 110, 45, 102, 97, 105, 108, 117, 114, 101]⟩, .string ⟨#[110, 101, 118, 101, 114]⟩]) (.int .i64 1)).run Tryd.prog W = .ok (.string ⟨#[111, 110, 45, 102, 97, 105, 108, 117, 114, 101]⟩) W := fun W => by kernel_rfl
  have x2 : ∀ W : World, (Instr.index 79 (.agg #[.string ⟨#[97, 108, 119, 97, 121, 115]⟩, .string ⟨#[111, 110, 45, 102, 97, 105, 108, 117, 114, 101]⟩, .string ⟨#[110, 101, 118, 101, 114]⟩]) (.int .i64 2)).run Tryd.prog W = .ok (.string ⟨#[110, 101, 118, 101, 114]⟩) W := fun W => by kernel_rfl
  generalize atL restartL s = pl at *
  generalize decide (0 ≤ placeI restartL s) = yes at *
  go_enter Tryd.func15, Tryd.ntmps15
  go_wp2
  go_loopw [7] (fun a7 wr => ∃ (k : Nat), a7 = .int .i64 (k : Int) ∧ k ≤ 3 ∧ w = wr ∧ Hid (1 ≤ k → s ≠ ⟨#[97, 108, 119, 97, 121, 115]⟩) ∧ Hid (2 ≤ k → s ≠ ⟨#[111, 110, 45, 102, 97, 105, 108, 117, 114, 101]⟩) ∧ Hid (3 ≤ k → s ≠ ⟨#[110, 101, 118, 101, 114]⟩)) (fun a7 _ => 3 - (intOf a7).toNat)
  case atStart => exact ⟨0, rfl, by omega, rfl, fun h => absurd h (by omega), fun h => absurd h (by omega), fun h => absurd h (by omega)⟩
  case round =>
    obtain ⟨k, rfl, hk, rfl, H0, H1, H2⟩ := hrel
    have hk4 : k = 0 ∨ k = 1 ∨ k = 2 ∨ k = 3 := by omega
    rcases hk4 with rfl | rfl | rfl | rfl
    · by_cases hs : s = ⟨#[97, 108, 119, 97, 121, 115]⟩
      · have HR := Lib.hid (HY0.out hs)
        subst hs
        go_wp2
        exact bodyPost_ret (v := .tuple #[.int .i64 0, .bool true]) (by simp [results, Tryd.f15, go_sem]) rfl ⟨by rw [HR.out.1, HR.out.2], rfl⟩
      · have HS := Lib.hid hs
        have e0 : (([97, 108, 119, 97, 121, 115] : List UInt8) == s.toList) = false := by
          have := tl_ne (Ne.symm hs)
          rwa [show (⟨#[97, 108, 119, 97, 121, 115]⟩ : ByteArray).toList = [97, 108, 119, 97, 121, 115] from by rw [Lib.toList_data]] at this
        clear hs
        go_wp2
        go_roundw
        case rel => exact ⟨1, by simp, by omega, by trivial, fun _ => HS.out, fun h => absurd h (by omega), fun h => absurd h (by omega)⟩
        case measure => simp [intOf]
    · by_cases hs : s = ⟨#[111, 110, 45, 102, 97, 105, 108, 117, 114, 101]⟩
      · have HR := Lib.hid (HY1.out hs)
        subst hs
        go_wp2
        exact bodyPost_ret (v := .tuple #[.int .i64 1, .bool true]) (by simp [results, Tryd.f15, go_sem]) rfl ⟨by rw [HR.out.1, HR.out.2], rfl⟩
      · have HS := Lib.hid hs
        have e0 : (([111, 110, 45, 102, 97, 105, 108, 117, 114, 101] : List UInt8) == s.toList) = false := by
          have := tl_ne (Ne.symm hs)
          rwa [show (⟨#[111, 110, 45, 102, 97, 105, 108, 117, 114, 101]⟩ : ByteArray).toList = [111, 110, 45, 102, 97, 105, 108, 117, 114, 101] from by rw [Lib.toList_data]] at this
        clear hs
        go_wp2
        go_roundw
        case rel => exact ⟨2, by simp, by omega, by trivial, fun _ => H0.out (by omega), fun _ => HS.out, fun h => absurd h (by omega)⟩
        case measure => simp [intOf]
    · by_cases hs : s = ⟨#[110, 101, 118, 101, 114]⟩
      · have HR := Lib.hid (HY2.out hs)
        subst hs
        go_wp2
        exact bodyPost_ret (v := .tuple #[.int .i64 2, .bool true]) (by simp [results, Tryd.f15, go_sem]) rfl ⟨by rw [HR.out.1, HR.out.2], rfl⟩
      · have HS := Lib.hid hs
        have e0 : (([110, 101, 118, 101, 114] : List UInt8) == s.toList) = false := by
          have := tl_ne (Ne.symm hs)
          rwa [show (⟨#[110, 101, 118, 101, 114]⟩ : ByteArray).toList = [110, 101, 118, 101, 114] from by rw [Lib.toList_data]] at this
        clear hs
        go_wp2
        go_roundw
        case rel => exact ⟨3, by simp, by omega, by trivial, fun _ => H0.out (by omega), fun _ => H1.out (by omega), fun _ => HS.out⟩
        case measure => simp [intOf]
    · have HR := Lib.hid (HNO.out (H0.out (by omega)) (H1.out (by omega)) (H2.out (by omega)))
      go_wp2
      exact bodyPost_ret (v := .tuple #[.int .i64 0, .bool false]) (by simp [results, Tryd.f15, go_sem]) rfl ⟨by rw [HR.out.1, HR.out.2], rfl⟩
set_option maxRecDepth 100000 in
theorem strR_any (n : Int) (w : World) (hW : Words w) : Calls Tryd.prog 20 #[.int .i64 n] w fun e w' => e = .returned (.string (wordS restartL n)) ∧ w = w' := by
  have c0 := hW.r0
  have c1 := hW.r1
  have c2 := hW.r2
  have HK := Lib.hid (fun W => knownR_any n W)
  clear hW
  by_cases h : 0 ≤ n ∧ n < 3
  · rw [decide_eq_true h.1, decide_eq_true h.2] at HK
    have h3 : n = 0 ∨ n = 1 ∨ n = 2 := by omega
    clear h
    rcases h3 with rfl | rfl | rfl
    all_goals go_enter Tryd.func20, Tryd.ntmps20
    all_goals go_wp2_with (go_at_call 29; refine (HK.out _).mono ?_; rintro e w' ⟨rfl, rfl⟩)
    all_goals go_ret
    all_goals exact ⟨rfl, rfl⟩
  · have hk : (decide (0 ≤ n) && decide (n < 3)) = false := by
      rw [Bool.eq_false_iff]; intro e
      simp only [Bool.and_eq_true, decide_eq_true_eq] at e
      exact h e
    rw [hk] at HK
    have HW : Hid (wordS restartL n = noneS) := by
      rw [Hid, wordS, if_neg (by show ¬ (0 ≤ n ∧ n < ((3 : Nat) : Int)); omega)]
    clear h hk
    go_enter Tryd.func20, Tryd.ntmps20
    go_wp2_with (go_at_call 29; refine (HK.out _).mono ?_; rintro e w' ⟨rfl, rfl⟩)
    go_ret
    exact ⟨by rw [HW.out]; rfl, rfl⟩
set_option maxRecDepth 100000 in
set_option maxHeartbeats 1000000 in
theorem protos_any (s : ByteArray) (w : World) (hW : Words w) : Calls Tryd.prog 16 #[.string s] w fun e w' => e = .returned (.tuple #[.int .i64 (atL protoL s), .bool (decide (0 ≤ placeI protoL s))]) ∧ w = w' := by
  have c0 := hW.p0
  have c1 := hW.p1
  have HY0 : Hid (s = ⟨#[116, 99, 112]⟩ → atL protoL s = 0 ∧ decide (0 ≤ placeI protoL s) = true) := fun e => by subst e; decide +kernel
  have HY1 : Hid (s = ⟨#[117, 100, 112]⟩ → atL protoL s = 1 ∧ decide (0 ≤ placeI protoL s) = true) := fun e => by subst e; decide +kernel
  have HNO : Hid (s ≠ ⟨#[116, 99, 112]⟩ → s ≠ ⟨#[117, 100, 112]⟩ → atL protoL s = 0 ∧ decide (0 ≤ placeI protoL s) = false) := fun h0 h1 => by
    have : placeI protoL s = -1 := by
      unfold placeI protoL
      rw [placeA, if_neg (Ne.symm h0)]
      rw [placeA, if_neg (Ne.symm h1)]
      rfl
    unfold atL
    rw [this]
    decide
  clear hW
  have x0 : ∀ W : World, (Instr.index 80 (.agg #[.string ⟨#[116, 99, 112]⟩, .string ⟨#[117, 100, 112]⟩]) (.int .i64 0)).run Tryd.prog W = .ok (.string ⟨#[116, 99, 112]⟩) W := fun W => by kernel_rfl
  have x1 : ∀ W : World, (Instr.index 80 (.agg #[.string ⟨#[116, 99, 112]⟩, .string ⟨#[117, 100, 112]⟩]) (.int .i64 1)).run Tryd.prog W = .ok (.string ⟨#[117, 100, 112]⟩) W := fun W => by kernel_rfl
  generalize atL protoL s = pl at *
  generalize decide (0 ≤ placeI protoL s) = yes at *
  go_enter Tryd.func16, Tryd.ntmps16
  go_wp2
  go_loopw [7] (fun a7 wr => ∃ (k : Nat), a7 = .int .i64 (k : Int) ∧ k ≤ 2 ∧ w = wr ∧ Hid (1 ≤ k → s ≠ ⟨#[116, 99, 112]⟩) ∧ Hid (2 ≤ k → s ≠ ⟨#[117, 100, 112]⟩)) (fun a7 _ => 2 - (intOf a7).toNat)
  case atStart => exact ⟨0, rfl, by omega, rfl, fun h => absurd h (by omega), fun h => absurd h (by omega)⟩
  case round =>
    obtain ⟨k, rfl, hk, rfl, H0, H1⟩ := hrel
    have hk4 : k = 0 ∨ k = 1 ∨ k = 2 := by omega
    rcases hk4 with rfl | rfl | rfl
    · by_cases hs : s = ⟨#[116, 99, 112]⟩
      · have HR := Lib.hid (HY0.out hs)
        subst hs
        go_wp2
        exact bodyPost_ret (v := .tuple #[.int .i64 0, .bool true]) (by simp [results, Tryd.f16, go_sem]) rfl ⟨by rw [HR.out.1, HR.out.2], rfl⟩
      · have HS := Lib.hid hs
        have e0 : (([116, 99, 112] : List UInt8) == s.toList) = false := by
          have := tl_ne (Ne.symm hs)
          rwa [show (⟨#[116, 99, 112]⟩ : ByteArray).toList = [116, 99, 112] from by rw [Lib.toList_data]] at this
        clear hs
        go_wp2
        go_roundw
        case rel => exact ⟨1, by simp, by omega, by trivial, fun _ => HS.out, fun h => absurd h (by omega)⟩
        case measure => simp [intOf]
    · by_cases hs : s = ⟨#[117, 100, 112]⟩
      · have HR := Lib.hid (HY1.out hs)
        subst hs
        go_wp2
        exact bodyPost_ret (v := .tuple #[.int .i64 1, .bool true]) (by simp [results, Tryd.f16, go_sem]) rfl ⟨by rw [HR.out.1, HR.out.2], rfl⟩
      · have HS := Lib.hid hs
        have e0 : (([117, 100, 112] : List UInt8) == s.toList) = false := by
          have := tl_ne (Ne.symm hs)
          rwa [show (⟨#[117, 100, 112]⟩ : ByteArray).toList = [117, 100, 112] from by rw [Lib.toList_data]] at this
        clear hs
        go_wp2
        go_roundw
        case rel => exact ⟨2, by simp, by omega, by trivial, fun _ => H0.out (by omega), fun _ => HS.out⟩
        case measure => simp [intOf]
    · have HR := Lib.hid (HNO.out (H0.out (by omega)) (H1.out (by omega)))
      go_wp2
      exact bodyPost_ret (v := .tuple #[.int .i64 0, .bool false]) (by simp [results, Tryd.f16, go_sem]) rfl ⟨by rw [HR.out.1, HR.out.2], rfl⟩
set_option maxRecDepth 100000 in
theorem strP_any (n : Int) (w : World) (hW : Words w) : Calls Tryd.prog 22 #[.int .i64 n] w fun e w' => e = .returned (.string (wordS protoL n)) ∧ w = w' := by
  have c0 := hW.p0
  have c1 := hW.p1
  have HK := Lib.hid (fun W => knownP_any n W)
  clear hW
  by_cases h : 0 ≤ n ∧ n < 2
  · rw [decide_eq_true h.1, decide_eq_true h.2] at HK
    have h3 : n = 0 ∨ n = 1 := by omega
    clear h
    rcases h3 with rfl | rfl
    all_goals go_enter Tryd.func22, Tryd.ntmps22
    all_goals go_wp2_with (go_at_call 42; refine (HK.out _).mono ?_; rintro e w' ⟨rfl, rfl⟩)
    all_goals go_ret
    all_goals exact ⟨rfl, rfl⟩
  · have hk : (decide (0 ≤ n) && decide (n < 2)) = false := by
      rw [Bool.eq_false_iff]; intro e
      simp only [Bool.and_eq_true, decide_eq_true_eq] at e
      exact h e
    rw [hk] at HK
    have HW : Hid (wordS protoL n = noneS) := by
      rw [Hid, wordS, if_neg (by show ¬ (0 ≤ n ∧ n < ((2 : Nat) : Int)); omega)]
    clear h hk
    go_enter Tryd.func22, Tryd.ntmps22
    go_wp2_with (go_at_call 42; refine (HK.out _).mono ?_; rintro e w' ⟨rfl, rfl⟩)
    go_ret
    exact ⟨by rw [HW.out]; rfl, rfl⟩
end Go.Proofs.YtfhhmajkacjbgaaDoor
