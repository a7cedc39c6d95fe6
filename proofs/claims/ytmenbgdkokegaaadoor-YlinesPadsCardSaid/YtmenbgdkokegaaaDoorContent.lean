/-
  The document's content of a line.
-/
import Derived.Test.YtmenbgdkokegaaaDoorRemark
namespace Go.Proofs.YtmenbgdkokegaaaDoor
open Go.ChangeShapes Go.WideShapes Go.ChangeAt Go.RowKit
attribute [local go_sem ↓] Go.wp_at_zero Go.wp_at_succ
variable {w : World}

/-- What is told of a line by the document. -/
def contRes (V : List UInt8 → Bool) (s : ByteArray) : Ending :=
  if badL V s.data.toList = true then .returned (.tuple #[.string ⟨#[]⟩, .int .i64 10]) else match rem s.data.toList with
    | some k => .returned (.tuple #[.string (s.extract 0 k), .int .i64 0])
    | none => .returned (.tuple #[.string ⟨#[]⟩, .int .i64 11])
theorem contRes_bad {V : List UInt8 → Bool} {s : ByteArray} (h : badL V s.data.toList = true) : contRes V s = .returned (.tuple #[.string ⟨#[]⟩, .int .i64 10]) := by
  rw [contRes, if_pos h]
theorem contRes_some {V : List UInt8 → Bool} {s : ByteArray} {k : Nat} (h : badL V s.data.toList = false) (hr : rem s.data.toList = some k) : contRes V s = .returned (.tuple #[.string (s.extract 0 k), .int .i64 0]) := by
  rw [contRes, if_neg (by rw [h]; simp), hr]
theorem contRes_none {V : List UInt8 → Bool} {s : ByteArray} (h : badL V s.data.toList = false) (hr : rem s.data.toList = none) : contRes V s = .returned (.tuple #[.string ⟨#[]⟩, .int .i64 11]) := by
  rw [contRes, if_neg (by rw [h]; simp), hr]
set_option maxRecDepth 100000 in
set_option maxHeartbeats 1000000 in
theorem content_of (V : List UInt8 → Bool) (s : ByteArray) (w : World) (hs : s.size ≤ 1000000) (hU : ∀ W, Calls Tryd.prog 24 #[.string s] W fun e w' => e = .returned (.bool (V s.data.toList)) ∧ W = w') :
    Calls Tryd.prog 14 #[.string s] w fun e w' => e = contRes V s ∧ w = w' := by
  have hll : s.data.toList.length = s.size := by simp
  have HLL := Lib.hid hll
  have HU := Lib.hid hU
  clear hll hU
  go_enter Tryd.func14, Tryd.ntmps14
  go_wp2
  go_loop [4] (fun a4 => ∃ k : Nat, k ≤ s.size ∧ a4 = .int .i64 k ∧ Hid (lowB s.data.toList = lowB (s.data.toList.drop k))) (fun a4 => s.size - (intOf a4).toNat)
  case atStart => exact ⟨0, by omega, rfl, rfl⟩
  case round =>
    obtain ⟨i, hi, rfl, HI⟩ := hrel
    by_cases hlt : i < s.size
    · have HL' : Hid (i < s.data.toList.length) := by rw [Hid, HLL.out]; exact hlt
      have HB : Hid (s.data.toList[i]'HL'.out = s[i]'hlt) := rfl
      by_cases c32 : s[i].toNat < 32
      · have x32 : (s[i].toNat : Int) < 32 := by omega
        have HN := Lib.hid (contRes_bad (V := V) (badL_low V (lowB_hit _ i HL'.out (by rw [HB.out]; exact c32) HI.out)))
        clear c32
        go_wp2
        go_ret2
        exact ⟨HN.out.symm, rfl⟩
      · have x32 : ¬ (s[i].toNat : Int) < 32 := by omega
        have HN := Lib.hid (lowB_step _ i HL'.out (by rw [HB.out]; omega) HI.out)
        clear c32
        go_wp2
        go_round
        case rel => exact ⟨i + 1, by omega, by simp, HN.out⟩
        case measure => simp [intOf]; omega
    · have HLO := Lib.hid (badL_of V (lowB_end _ i (by rw [HLL.out]; omega) HI.out))
      cases hv : V s.data.toList with
      | false =>
        rw [hv] at HU HLO
        have HN := Lib.hid (contRes_bad (V := V) (by rw [HLO.out]; rfl))
        clear hv
        go_wp2_with (go_at_call 24; refine (HU.out _).mono ?_; rintro e w' ⟨rfl, rfl⟩)
        go_ret2
        exact ⟨HN.out.symm, rfl⟩
      | true =>
        rw [hv] at HU HLO
        have HGOOD : Hid (badL V s.data.toList = false) := by rw [Hid, HLO.out]; rfl
        clear hv
        go_wp2_with (go_at_call 24; refine (HU.out _).mono ?_; rintro e w' ⟨rfl, rfl⟩)
        go_loop [5] (fun a5 => ∃ k : Nat, k ≤ s.size ∧ a5 = .int .i64 k ∧ Hid (RemAt s.data.toList false false k)) (fun a5 => s.size - (intOf a5).toNat)
        case atStart => exact ⟨0, by omega, rfl, remAt_zero _⟩
        case round =>
          obtain ⟨m, hm, rfl, HM⟩ := hrel
          by_cases hlm : m < s.size
          · have HL2 : Hid (m < s.data.toList.length) := by rw [Hid, HLL.out]; exact hlm
            have HB2 : Hid (s.data.toList[m]'HL2.out = s[m]'hlm) := rfl
            by_cases c34 : s[m] = 34
            · have e35 : ((s[m].toNat : Int) == 35) = false := neB (n := 35) (by rw [c34]; decide)
              have x35 : (s[m].toNat : Int) ≠ 35 := by simpa using e35
              have e34 : ((s[m].toNat : Int) == 34) = true := eqB (n := 34) c34 (by omega)
              have x34 : ((s[m].toNat : Int) != 34) = false := by simpa using e34
              have HQ := Lib.hid (remAt_quote HL2.out (HB2.out.trans c34) HM.out)
              clear c34
              go_wp2
              all_goals try (exfalso; omega)
              go_loop [6] (fun a6 => ∃ k : Nat, m < k ∧ k ≤ s.size + 1 ∧ a6 = .int .i64 k ∧ Hid (RemAt s.data.toList true false k)) (fun a6 => s.size + 1 - (intOf a6).toNat)
              case atStart => exact ⟨m + 1, by omega, by omega, by simp, HQ.out⟩
              case round =>
                obtain ⟨k, hmk, hk, rfl, HK⟩ := hrel
                by_cases hlk : k < s.size
                · have HL3 : Hid (k < s.data.toList.length) := by rw [Hid, HLL.out]; exact hlk
                  have HB3 : Hid (s.data.toList[k]'HL3.out = s[k]'hlk) := rfl
                  by_cases d34 : s[k] = 34
                  · have f34 : ((s[k].toNat : Int) == 34) = true := eqB (n := 34) d34 (by omega)
                    have y34 : ((s[k].toNat : Int) != 34) = false := by simpa using f34
                    have z34 : (s[k].toNat : Int) = 34 := by simpa using f34
                    have HN := Lib.hid (remAt_quote HL3.out (HB3.out.trans d34) HK.out)
                    have hge : ¬ (s.size : Int) ≤ (k : Int) := by omega
                    clear d34
                    go_wp2
                    all_goals try (exfalso; omega)
                    go_round
                    case rel => exact ⟨k + 1, by omega, by simp, HN.out⟩
                    case measure => simp [intOf]; omega
                  · have f34 : ((s[k].toNat : Int) == 34) = false := neB (n := 34) d34
                    have y34 : ((s[k].toNat : Int) != 34) = true := by simpa using f34
                    have z34 : (s[k].toNat : Int) ≠ 34 := by simpa using f34
                    by_cases d92 : s[k] = 92
                    · have f92 : ((s[k].toNat : Int) == 92) = true := eqB (n := 92) d92 (by omega)
                      have HN := Lib.hid (remAt_two HL3.out (HB3.out.trans d92) HK.out)
                      clear d34 d92
                      go_wp2
                      all_goals try (exfalso; omega)
                      go_round
                      case rel => exact ⟨k + 2, by omega, by omega, by simp; omega, HN.out⟩
                      case measure => simp [intOf]; omega
                    · have f92 : ((s[k].toNat : Int) == 92) = false := neB (n := 92) d92
                      have HN := Lib.hid (remAt_other HL3.out (by rw [HB3.out]; exact d92) (by rw [HB3.out]; exact d34) (by simp) HK.out)
                      clear d34 d92
                      go_wp2
                      all_goals try (exfalso; omega)
                      go_round
                      case rel => exact ⟨k + 1, by omega, by omega, by simp, HN.out⟩
                      case measure => simp [intOf]; omega
                · have HN := Lib.hid (contRes_none (V := V) HGOOD.out (remAt_over (by rw [HLL.out]; omega) HK.out))
                  have hge : (s.size : Int) ≤ (k : Int) := by omega
                  go_wp2
                  all_goals try (exfalso; omega)
                  go_ret2
                  exact ⟨HN.out.symm, rfl⟩
            · have e34 : ((s[m].toNat : Int) == 34) = false := neB (n := 34) c34
              have x34 : ((s[m].toNat : Int) != 34) = true := by simpa using e34
              by_cases c92 : s[m] = 92
              · have e35 : ((s[m].toNat : Int) == 35) = false := neB (n := 35) (by rw [c92]; decide)
                have x35 : (s[m].toNat : Int) ≠ 35 := by simpa using e35
                have HN := Lib.hid (remAt_back HL2.out (HB2.out.trans c92) HM.out)
                clear c34 c92
                go_wp2
                all_goals try (exfalso; omega)
                go_round
                case rel => exact ⟨m + 1, by omega, by simp, HN.out⟩
                case measure => simp [intOf]; omega
              · by_cases c35 : s[m] = 35
                · have e35 : ((s[m].toNat : Int) == 35) = true := eqB (n := 35) c35 (by omega)
                  have x35 : (s[m].toNat : Int) = 35 := by simpa using e35
                  rcases m with _ | j
                  · have HN := Lib.hid (contRes_some (V := V) HGOOD.out (remAt_hash HL2.out (HB2.out.trans c35) rfl HM.out))
                    clear c34 c92 c35
                    go_wp2
                    all_goals try (exfalso; omega)
                    go_ret2
                    exact ⟨by rw [HN.out]; simp, rfl⟩
                  · have hj : j < s.size := by omega
                    have HBJ : Hid (blank s.data.toList (j + 1) = (s[j] == 32)) := blank_succ _ j (by rw [HLL.out]; exact hj)
                    by_cases c32 : s[j] = 32
                    · have e32 : ((s[j].toNat : Int) == 32) = true := eqB (n := 32) c32 (by omega)
                      have x32 : (s[j].toNat : Int) = 32 := by simpa using e32
                      have HN := Lib.hid (contRes_some (V := V) HGOOD.out (remAt_hash HL2.out (HB2.out.trans c35) (by rw [HBJ.out, c32]; rfl) HM.out))
                      clear c34 c92 c35 c32
                      go_wp2
                      all_goals try (exfalso; omega)
                      go_ret2
                      exact ⟨by rw [HN.out]; simp, rfl⟩
                    · have e32 : ((s[j].toNat : Int) == 32) = false := neB (n := 32) c32
                      have x32 : (s[j].toNat : Int) ≠ 32 := by simpa using e32
                      have HN := Lib.hid (remAt_other HL2.out (by rw [HB2.out]; exact c92) (by rw [HB2.out]; exact c34) (by rw [HBJ.out]; simp [c32]) HM.out)
                      clear c34 c92 c35 c32
                      go_wp2
                      all_goals try (exfalso; omega)
                      go_round
                      case rel => exact ⟨j + 1 + 1, by omega, by simp, HN.out⟩
                      case measure => simp [intOf]; omega
                · have e35 : ((s[m].toNat : Int) == 35) = false := neB (n := 35) c35
                  have x35 : (s[m].toNat : Int) ≠ 35 := by simpa using e35
                  have HN := Lib.hid (remAt_other HL2.out (by rw [HB2.out]; exact c92) (by rw [HB2.out]; exact c34) (fun h => c35 (HB2.out.symm.trans h.1)) HM.out)
                  clear c34 c92 c35
                  go_wp2
                  all_goals try (exfalso; omega)
                  go_round
                  case rel => exact ⟨m + 1, by omega, by simp, HN.out⟩
                  case measure => simp [intOf]; omega
          · obtain rfl : m = s.size := by omega
            have HN := Lib.hid (contRes_some (V := V) HGOOD.out (remAt_end (by rw [HLL.out]; omega) HLL.out.symm HM.out))
            go_wp2
            go_ret2
            refine ⟨?_, rfl⟩
            rw [HN.out]
            show _ = Ending.returned (.tuple #[.string (s.extract 0 s.data.toList.length), .int .i64 0])
            rw [HLL.out, extract_all]
            rfl
end Go.Proofs.YtmenbgdkokegaaaDoor
