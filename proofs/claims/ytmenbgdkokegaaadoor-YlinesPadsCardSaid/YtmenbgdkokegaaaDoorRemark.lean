/-
  What stands ahead of a line's remark, by package ylines.
-/
import Derived.Test.YtmenbgdkokegaaaDoorBase
import Derived.Test.YtmenbgdkokegaaaDoorMath
import Derived.Deep.DeepCutAuto
import Derived.Deep.CutRange
import Derived.Deep.CutBlock
import Derived.RegionTactic
import Derived.Deep.DrawnRows
namespace Go.Proofs.YtmenbgdkokegaaaDoor
open Go.ChangeShapes Go.WideShapes Go.ChangeAt Go.RowKit
attribute [local go_sem ↓] Go.wp_at_zero Go.wp_at_succ
variable {w : World}

theorem eqB {c : UInt8} {n : Nat} (h : c = UInt8.ofNat n) (hn : n < 256) : ((c.toNat : Int) == (n : Int)) = true := by
  subst h
  rw [beq_iff_eq, UInt8.toNat_ofNat']
  omega
theorem neB {c : UInt8} {n : Nat} (h : c ≠ UInt8.ofNat n) : ((c.toNat : Int) == (n : Int)) = false := by
  rw [beq_eq_false_iff_ne]
  intro e
  apply h
  have : c.toNat = n := by omega
  rw [← this]; simp
/-- What is told of a line. -/
def remRes (s : ByteArray) : Option Nat → Ending
  | some k => .returned (.tuple #[.string (s.extract 0 k), .bool true])
  | none => .returned (.tuple #[.string s, .bool false])
theorem extract_all (s : ByteArray) : s.extract 0 s.size = s := by
  simp
set_option maxRecDepth 100000 in
set_option maxHeartbeats 1000000 in
theorem rem_any (s : ByteArray) (w : World) (hs : s.size ≤ 1000000) : Calls Tryd.prog 11 #[.string s] w fun e w' => e = remRes s (rem s.data.toList) ∧ w = w' := by
  have hll : s.data.toList.length = s.size := by simp
  have HLL := Lib.hid hll
  clear hll
  go_enter Tryd.func11, Tryd.ntmps11
  go_wp2
  go_loop [4, 5, 10] (fun a4 a5 a10 => ∃ (q sk : Bool) (k : Nat), k ≤ s.size ∧ a4 = .bool q ∧ a5 = .bool sk ∧ a10 = .int .i64 k ∧ Hid (RemAt s.data.toList q sk k)) (fun _ _ a10 => s.size - (intOf a10).toNat)
  case atStart => exact ⟨false, false, 0, by omega, rfl, rfl, rfl, remAt_zero _⟩
  case round =>
    obtain ⟨q, sk, i, hi, rfl, rfl, rfl, HI⟩ := hrel
    by_cases hlt : i < s.size
    · have HL' : Hid (i < s.data.toList.length) := by rw [Hid, HLL.out]; exact hlt
      have HB : Hid (s.data.toList[i]'HL'.out = s[i]'hlt) := rfl
      cases sk with
      | true =>
        have HN := Lib.hid (remAt_skip HL'.out HI.out)
        go_wp2
        all_goals first | (exfalso; omega) | go_round
        all_goals first
          | exact ⟨_, _, i + 1, by omega, rfl, rfl, by simp, HN.out⟩
          | (simp [intOf]; omega)
      | false =>
        by_cases c92 : s[i] = 92
        · have e92 : ((s[i].toNat : Int) == 92) = true := eqB (n := 92) c92 (by omega)
          have HN := Lib.hid (remAt_back HL'.out (HB.out.trans c92) HI.out)
          clear c92
          go_wp2
          all_goals first | (exfalso; omega) | go_round
          all_goals first
            | exact ⟨_, _, i + 1, by omega, rfl, rfl, by simp, HN.out⟩
            | (simp [intOf]; omega)
        have e92 : ((s[i].toNat : Int) == 92) = false := neB (n := 92) c92
        by_cases c34 : s[i] = 34
        · have e34 : ((s[i].toNat : Int) == 34) = true := eqB (n := 34) c34 (by omega)
          have HN := Lib.hid (remAt_quote HL'.out (HB.out.trans c34) HI.out)
          clear c34 c92
          cases q <;> go_wp2
          all_goals first | (exfalso; omega) | go_round
          all_goals first
            | exact ⟨_, _, i + 1, by omega, rfl, rfl, by simp, HN.out⟩
            | (simp [intOf]; omega)
        have e34 : ((s[i].toNat : Int) == 34) = false := neB (n := 34) c34
        by_cases c35 : s[i] = 35
        · have e35 : ((s[i].toNat : Int) == 35) = true := eqB (n := 35) c35 (by omega)
          have x35 : (s[i].toNat : Int) = 35 := by simpa using e35
          cases q with
          | true =>
            have HN := Lib.hid (remAt_other HL'.out (by rw [HB.out]; exact c92) (by rw [HB.out]; exact c34) (by simp) HI.out)
            clear c34 c92 c35
            go_wp2
            all_goals first | (exfalso; omega) | go_round
            all_goals first
              | exact ⟨_, _, i + 1, by omega, rfl, rfl, by simp, HN.out⟩
              | (simp [intOf]; omega)
          | false =>
            rcases i with _ | j
            · have HN := Lib.hid (remAt_hash HL'.out (HB.out.trans c35) rfl HI.out)
              clear c34 c92 c35
              go_wp2
              all_goals first | (exfalso; omega) | skip
              go_ret2
              exact ⟨by rw [HN.out]; simp [remRes], rfl⟩
            · have hj : j < s.size := by omega
              have HBJ : Hid (blank s.data.toList (j + 1) = (s[j] == 32)) := blank_succ _ j (by rw [HLL.out]; exact hj)
              by_cases c32 : s[j] = 32
              · have e32 : ((s[j].toNat : Int) == 32) = true := eqB (n := 32) c32 (by omega)
                have HN := Lib.hid (remAt_hash HL'.out (HB.out.trans c35) (by rw [HBJ.out, c32]; rfl) HI.out)
                clear c34 c92 c35 c32
                go_wp2
                all_goals first | (exfalso; omega) | skip
                go_ret2
                exact ⟨by rw [HN.out]; simp [remRes], rfl⟩
              · have e32 : ((s[j].toNat : Int) == 32) = false := neB (n := 32) c32
                have HN := Lib.hid (remAt_other HL'.out (by rw [HB.out]; exact c92) (by rw [HB.out]; exact c34) (by rw [HBJ.out]; simp [c32]) HI.out)
                clear c34 c92 c35 c32
                go_wp2
                all_goals first | (exfalso; omega) | go_round
                all_goals first
                  | exact ⟨_, _, j + 1 + 1, by omega, rfl, rfl, by simp, HN.out⟩
                  | (simp [intOf]; omega)
        · have e35 : ((s[i].toNat : Int) == 35) = false := neB (n := 35) c35
          have x35 : (s[i].toNat : Int) ≠ 35 := by simpa using e35
          have HN := Lib.hid (remAt_other HL'.out (by rw [HB.out]; exact c92) (by rw [HB.out]; exact c34) (fun h => c35 (HB.out.symm.trans h.1)) HI.out)
          clear c34 c92 c35
          go_wp2
          all_goals first | (exfalso; omega) | go_round
          all_goals first
            | exact ⟨_, _, i + 1, by omega, rfl, rfl, by simp, HN.out⟩
            | (simp [intOf]; omega)
    · obtain rfl : i = s.size := by omega
      have HN := Lib.hid (remAt_end (by rw [HLL.out]; omega) HLL.out.symm HI.out)
      cases q with
      | true =>
        go_wp2
        go_ret2
        exact ⟨by rw [HN.out]; simp [remRes], rfl⟩
      | false =>
        go_wp2
        go_ret2
        refine ⟨?_, rfl⟩
        rw [HN.out]
        show _ = Ending.returned (.tuple #[.string (s.extract 0 s.data.toList.length), .bool true])
        rw [HLL.out, extract_all]
        rfl
end Go.Proofs.YtmenbgdkokegaaaDoor
