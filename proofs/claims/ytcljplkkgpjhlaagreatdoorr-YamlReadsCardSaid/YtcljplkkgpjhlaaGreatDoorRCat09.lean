/-
  Parts of the proof: Ahead RWhole YMath YOnly.
-/
import Derived.Test.YtcljplkkgpjhlaaGreatDoorRCat07
import Derived.Test.YtcljplkkgpjhlaaGreatDoorRCat08
import Derived.IntWalk
import Derived.Deep.DeepCutAuto
import Derived.Deep.CutRange
import Derived.Deep.CutBlock
import Derived.Test.YtcljplkkgpjhlaaGreatDoorRCat05
import Derived.Test.YtcljplkkgpjhlaaGreatDoorRCat02
set_option maxRecDepth 100000
set_option maxHeartbeats 8000000
namespace Go.Proofs.YtcljplkkgpjhlaaGreatDoorR
section
open Go.ChangeShapes Go.WideShapes Go.ChangeAt Go.RowKit
attribute [local go_sem ↓] Go.wp_at_zero Go.wp_at_succ
variable {w : World}
def blankB (c : UInt8) : Bool := decide (c.toNat = 32 ∨ c.toNat = 9 ∨ c.toNat = 10 ∨ c.toNat = 13)
def letB (c : UInt8) : Bool := decide ((65 ≤ c.toNat ∧ c.toNat ≤ 90) ∨ (97 ≤ c.toNat ∧ c.toNat ≤ 122))
def startB (c : UInt8) : Bool := decide (c.toNat = 45 ∨ (48 ≤ c.toNat ∧ c.toNat ≤ 57))
def innB (c : UInt8) : Bool := startB c || letB c || decide (c.toNat = 46 ∨ c.toNat = 43)
theorem isDigit_any (c : UInt8) (w : World) : Calls Tryz.prog 124 #[.int .u8 (c.toNat : Int)] w fun e w' => e = .returned (.bool (digB c)) ∧ w = w' := by
  by_cases h0 : 48 ≤ c.toNat
  · by_cases h1 : c.toNat ≤ 57
    · have a0 : (48 : Int) ≤ (c.toNat : Int) := by omega
      have a1 : (c.toNat : Int) ≤ 57 := by omega
      have H : Hid (digB c = true) := (digB_iff c).2 ⟨h0, h1⟩
      clear h0 h1
      go_enter Tryz.func124, Tryz.ntmps124
      go_wp2
      go_ret
      exact ⟨by rw [H.out]; rfl, rfl⟩
    · have a0 : (48 : Int) ≤ (c.toNat : Int) := by omega
      have a1 : ¬ (c.toNat : Int) ≤ 57 := by omega
      have H : Hid (digB c = false) := by rw [Hid, digB]; simp; omega
      clear h0 h1
      go_enter Tryz.func124, Tryz.ntmps124
      go_wp2
      go_ret
      exact ⟨by rw [H.out]; rfl, rfl⟩
  · have a0 : ¬ (48 : Int) ≤ (c.toNat : Int) := by omega
    have H : Hid (digB c = false) := by rw [Hid, digB]; simp; omega
    clear h0
    go_enter Tryz.func124, Tryz.ntmps124
    go_wp2
    go_ret
    exact ⟨by rw [H.out]; rfl, rfl⟩
theorem isBlank_any (c : UInt8) (w : World) : Calls Tryz.prog 72 #[.int .u8 (c.toNat : Int)] w fun e w' => e = .returned (.bool (blankB c)) ∧ w = w' := by
  by_cases h : c.toNat = 32 ∨ c.toNat = 9 ∨ c.toNat = 10 ∨ c.toNat = 13
  · have H : Hid (blankB c = true) := by rw [Hid, blankB]; exact decide_eq_true h
    rcases h with h | h | h | h
    all_goals
      have hi : (c.toNat : Int) = ((c.toNat : Nat) : Int) := rfl
      rw [h]
      clear h hi
      go_enter Tryz.func72, Tryz.ntmps72
      go_wp2
      go_ret
      exact ⟨by rw [H.out]; rfl, rfl⟩
  · have H : Hid (blankB c = false) := by rw [Hid, blankB]; exact decide_eq_false h
    have a0 : ((c.toNat : Int) == 32) = false := by rw [beq_eq_false_iff_ne]; omega
    have a1 : ((c.toNat : Int) == 9) = false := by rw [beq_eq_false_iff_ne]; omega
    have a2 : ((c.toNat : Int) == 10) = false := by rw [beq_eq_false_iff_ne]; omega
    have a3 : ((c.toNat : Int) == 13) = false := by rw [beq_eq_false_iff_ne]; omega
    clear h
    go_enter Tryz.func72, Tryz.ntmps72
    go_wp2
    go_ret
    exact ⟨by rw [H.out]; rfl, rfl⟩
theorem isLetter_any (c : UInt8) (w : World) : Calls Tryz.prog 99 #[.int .u8 (c.toNat : Int)] w fun e w' => e = .returned (.bool (letB c)) ∧ w = w' := by
  have hc : c.toNat < 65 ∨ (65 ≤ c.toNat ∧ c.toNat ≤ 90) ∨ (91 ≤ c.toNat ∧ c.toNat < 97) ∨ (97 ≤ c.toNat ∧ c.toNat ≤ 122) ∨ 123 ≤ c.toNat := by omega
  rcases hc with h | h | h | h | h
  · have H : Hid (letB c = false) := by rw [Hid, letB]; exact decide_eq_false (by omega)
    have a0 : ¬ (65 : Int) ≤ (c.toNat : Int) := by omega
    have a1 : ¬ (97 : Int) ≤ (c.toNat : Int) := by omega
    clear h
    go_enter Tryz.func99, Tryz.ntmps99
    go_wp2
    go_ret
    exact ⟨by rw [H.out]; rfl, rfl⟩
  · have H : Hid (letB c = true) := by rw [Hid, letB]; exact decide_eq_true (.inl h)
    have a0 : (65 : Int) ≤ (c.toNat : Int) := by omega
    have a1 : (c.toNat : Int) ≤ 90 := by omega
    clear h
    go_enter Tryz.func99, Tryz.ntmps99
    go_wp2
    go_ret
    exact ⟨by rw [H.out]; rfl, rfl⟩
  · have H : Hid (letB c = false) := by rw [Hid, letB]; exact decide_eq_false (by omega)
    have a0 : (65 : Int) ≤ (c.toNat : Int) := by omega
    have a1 : ¬ (c.toNat : Int) ≤ 90 := by omega
    have a2 : ¬ (97 : Int) ≤ (c.toNat : Int) := by omega
    clear h
    go_enter Tryz.func99, Tryz.ntmps99
    go_wp2
    go_ret
    exact ⟨by rw [H.out]; rfl, rfl⟩
  · have H : Hid (letB c = true) := by rw [Hid, letB]; exact decide_eq_true (.inr h)
    have a0 : (65 : Int) ≤ (c.toNat : Int) := by omega
    have a1 : ¬ (c.toNat : Int) ≤ 90 := by omega
    have a2 : (97 : Int) ≤ (c.toNat : Int) := by omega
    have a3 : (c.toNat : Int) ≤ 122 := by omega
    clear h
    go_enter Tryz.func99, Tryz.ntmps99
    go_wp2
    go_ret
    exact ⟨by rw [H.out]; rfl, rfl⟩
  · have H : Hid (letB c = false) := by rw [Hid, letB]; exact decide_eq_false (by omega)
    have a0 : (65 : Int) ≤ (c.toNat : Int) := by omega
    have a1 : ¬ (c.toNat : Int) ≤ 90 := by omega
    have a2 : (97 : Int) ≤ (c.toNat : Int) := by omega
    have a3 : ¬ (c.toNat : Int) ≤ 122 := by omega
    clear h
    go_enter Tryz.func99, Tryz.ntmps99
    go_wp2
    go_ret
    exact ⟨by rw [H.out]; rfl, rfl⟩
theorem starts_any (c : UInt8) (w : World) : Calls Tryz.prog 96 #[.int .u8 (c.toNat : Int)] w fun e w' => e = .returned (.bool (startB c)) ∧ w = w' := by
  by_cases h : c.toNat = 45
  · have H : Hid (startB c = true) := by rw [Hid, startB]; exact decide_eq_true (.inl h)
    rw [h]
    clear h
    go_enter Tryz.func96, Tryz.ntmps96
    go_wp2
    go_ret
    exact ⟨by rw [H.out]; rfl, rfl⟩
  · have H : Hid (digB c = startB c) := by rw [Hid, startB, digB]; exact decide_eq_decide.2 (by omega)
    have HD := Lib.hid (fun W => isDigit_any c W)
    rw [H.out] at HD
    have a0 : ((c.toNat : Int) == 45) = false := by rw [beq_eq_false_iff_ne]; omega
    clear h H
    generalize startB c = z at *
    go_enter Tryz.func96, Tryz.ntmps96
    go_wp2_with (go_at_call 124; refine (HD.out _).mono ?_; rintro e w' ⟨rfl, rfl⟩)
    go_ret
    exact ⟨rfl, rfl⟩
theorem inNumber_any (c : UInt8) (w : World) : Calls Tryz.prog 97 #[.int .u8 (c.toNat : Int)] w fun e w' => e = .returned (.bool (innB c)) ∧ w = w' := by
  have HS := Lib.hid (fun W => starts_any c W)
  have HL := Lib.hid (fun W => isLetter_any c W)
  have HE : Hid (innB c = (startB c || letB c || decide (c.toNat = 46 ∨ c.toNat = 43))) := rfl
  cases hs : startB c with
  | true =>
    rw [hs] at HS HE
    have HX : Hid (innB c = true) := by rw [Hid, HE.out]; rfl
    clear hs HE HL
    go_enter Tryz.func97, Tryz.ntmps97
    go_wp2_with (go_at_call 96; refine (HS.out _).mono ?_; rintro e w' ⟨rfl, rfl⟩)
    go_ret
    exact ⟨by rw [HX.out]; rfl, rfl⟩
  | false =>
    rw [hs] at HS HE
    cases hl : letB c with
    | true =>
      rw [hl] at HL HE
      have HX : Hid (innB c = true) := by rw [Hid, HE.out]; rfl
      clear hs hl HE
      go_enter Tryz.func97, Tryz.ntmps97
      go_wp2_with (first | (go_at_call 96; refine (HS.out _).mono ?_; rintro e w' ⟨rfl, rfl⟩) | (go_at_call 99; refine (HL.out _).mono ?_; rintro e w' ⟨rfl, rfl⟩))
      go_ret
      exact ⟨by rw [HX.out]; rfl, rfl⟩
    | false =>
      rw [hl] at HL HE
      by_cases h1 : c.toNat = 46
      · have HX : Hid (innB c = true) := by rw [Hid, HE.out, decide_eq_true (.inl h1)]; rfl
        have a0 : ((c.toNat : Int) == 46) = true := by rw [h1]; rfl
        clear hs hl HE h1
        go_enter Tryz.func97, Tryz.ntmps97
        go_wp2_with (first | (go_at_call 96; refine (HS.out _).mono ?_; rintro e w' ⟨rfl, rfl⟩) | (go_at_call 99; refine (HL.out _).mono ?_; rintro e w' ⟨rfl, rfl⟩))
        go_ret
        exact ⟨by rw [HX.out]; rfl, rfl⟩
      by_cases h2 : c.toNat = 43
      · have HX : Hid (innB c = true) := by rw [Hid, HE.out, decide_eq_true (.inr h2)]; rfl
        have a0 : ((c.toNat : Int) == 46) = false := by rw [beq_eq_false_iff_ne]; omega
        have a1 : ((c.toNat : Int) == 43) = true := by rw [h2]; rfl
        clear hs hl HE h1 h2
        go_enter Tryz.func97, Tryz.ntmps97
        go_wp2_with (first | (go_at_call 96; refine (HS.out _).mono ?_; rintro e w' ⟨rfl, rfl⟩) | (go_at_call 99; refine (HL.out _).mono ?_; rintro e w' ⟨rfl, rfl⟩))
        go_ret
        exact ⟨by rw [HX.out]; rfl, rfl⟩
      · have HX : Hid (innB c = false) := by rw [Hid, HE.out, decide_eq_false (by omega)]; rfl
        have a0 : ((c.toNat : Int) == 46) = false := by rw [beq_eq_false_iff_ne]; omega
        have a1 : ((c.toNat : Int) == 43) = false := by rw [beq_eq_false_iff_ne]; omega
        clear hs hl HE h1 h2
        go_enter Tryz.func97, Tryz.ntmps97
        go_wp2_with (first | (go_at_call 96; refine (HS.out _).mono ?_; rintro e w' ⟨rfl, rfl⟩) | (go_at_call 99; refine (HL.out _).mono ?_; rintro e w' ⟨rfl, rfl⟩))
        go_ret
        exact ⟨by rw [HX.out]; rfl, rfl⟩
theorem cnt_at (p : UInt8 → Bool) (s : ByteArray) (k : Nat) (h : k < s.size) : cnt p (s.data.toList.drop k) = if p s[k] = true then cnt p (s.data.toList.drop (k + 1)) + 1 else 0 := by
  rw [List.drop_eq_getElem_cons (by simpa using h), cnt]
  rfl
theorem ahead_blank (s : ByteArray) (w : World) (hs : s.size ≤ 9000000) : Calls Tryz.prog 71 #[.string s, .func (.func 72) #[] #[]] w fun e w' => e = .returned (.int .i64 (cnt blankB s.data.toList)) ∧ w = w' := by
  go_enter Tryz.func71, Tryz.ntmps71
  go_wp2
  go_loop [5, 8] (fun _ i => ∃ k : Nat, k ≤ s.size ∧ i = .int .i64 k ∧ Hid (cnt blankB s.data.toList = k + cnt blankB (s.data.toList.drop k))) (fun _ i => s.size - (intOf i).toNat)
  case atStart => exact ⟨0, Nat.zero_le _, rfl, by rw [Hid]; simp⟩
  case round =>
    obtain ⟨k, hk, rfl, HE⟩ := hrel
    by_cases hlt : k < s.size
    · have HA := Lib.hid (cnt_at blankB s k hlt)
      have HP := Lib.hid (fun W => isBlank_any s[k] W)
      cases hp : blankB s[k] with
      | true =>
        rw [hp, Hid, if_pos rfl] at HA
        have HX : Hid (cnt blankB s.data.toList = (k + 1) + cnt blankB (s.data.toList.drop (k + 1))) := by rw [Hid, HE.out, HA]; omega
        rw [hp] at HP
        clear hp HA
        go_wp2_with (go_at_call 72; refine (HP.out _).mono ?_; rintro e w' ⟨rfl, rfl⟩)
        go_round
        case rel => exact ⟨k + 1, by omega, by go_num, HX.out⟩
        case measure => simp [intOf]; omega
      | false =>
        rw [hp, Hid, if_neg (by simp)] at HA
        have HX : Hid (cnt blankB s.data.toList = k) := by rw [Hid, HE.out, HA]; omega
        rw [hp] at HP
        clear hp HA
        go_wp2_with (go_at_call 72; refine (HP.out _).mono ?_; rintro e w' ⟨rfl, rfl⟩)
        go_ret
        exact ⟨by rw [HX.out]; rfl, rfl⟩
    · obtain rfl : k = s.size := by omega
      have HX : Hid (cnt blankB s.data.toList = s.size) := by rw [Hid, HE.out, List.drop_eq_nil_of_le (by simp)]; simp [cnt]
      clear HE
      go_wp2
      go_ret
      exact ⟨by rw [HX.out]; rfl, rfl⟩
theorem ahead_digit (s : ByteArray) (w : World) (hs : s.size ≤ 9000000) : Calls Tryz.prog 71 #[.string s, .func (.func 124) #[] #[]] w fun e w' => e = .returned (.int .i64 (cnt digB s.data.toList)) ∧ w = w' := by
  go_enter Tryz.func71, Tryz.ntmps71
  go_wp2
  go_loop [5, 8] (fun _ i => ∃ k : Nat, k ≤ s.size ∧ i = .int .i64 k ∧ Hid (cnt digB s.data.toList = k + cnt digB (s.data.toList.drop k))) (fun _ i => s.size - (intOf i).toNat)
  case atStart => exact ⟨0, Nat.zero_le _, rfl, by rw [Hid]; simp⟩
  case round =>
    obtain ⟨k, hk, rfl, HE⟩ := hrel
    by_cases hlt : k < s.size
    · have HA := Lib.hid (cnt_at digB s k hlt)
      have HP := Lib.hid (fun W => isDigit_any s[k] W)
      cases hp : digB s[k] with
      | true =>
        rw [hp, Hid, if_pos rfl] at HA
        have HX : Hid (cnt digB s.data.toList = (k + 1) + cnt digB (s.data.toList.drop (k + 1))) := by rw [Hid, HE.out, HA]; omega
        rw [hp] at HP
        clear hp HA
        go_wp2_with (go_at_call 124; refine (HP.out _).mono ?_; rintro e w' ⟨rfl, rfl⟩)
        go_round
        case rel => exact ⟨k + 1, by omega, by go_num, HX.out⟩
        case measure => simp [intOf]; omega
      | false =>
        rw [hp, Hid, if_neg (by simp)] at HA
        have HX : Hid (cnt digB s.data.toList = k) := by rw [Hid, HE.out, HA]; omega
        rw [hp] at HP
        clear hp HA
        go_wp2_with (go_at_call 124; refine (HP.out _).mono ?_; rintro e w' ⟨rfl, rfl⟩)
        go_ret
        exact ⟨by rw [HX.out]; rfl, rfl⟩
    · obtain rfl : k = s.size := by omega
      have HX : Hid (cnt digB s.data.toList = s.size) := by rw [Hid, HE.out, List.drop_eq_nil_of_le (by simp)]; simp [cnt]
      clear HE
      go_wp2
      go_ret
      exact ⟨by rw [HX.out]; rfl, rfl⟩
theorem ahead_number (s : ByteArray) (w : World) (hs : s.size ≤ 9000000) : Calls Tryz.prog 71 #[.string s, .func (.func 97) #[] #[]] w fun e w' => e = .returned (.int .i64 (cnt innB s.data.toList)) ∧ w = w' := by
  go_enter Tryz.func71, Tryz.ntmps71
  go_wp2
  go_loop [5, 8] (fun _ i => ∃ k : Nat, k ≤ s.size ∧ i = .int .i64 k ∧ Hid (cnt innB s.data.toList = k + cnt innB (s.data.toList.drop k))) (fun _ i => s.size - (intOf i).toNat)
  case atStart => exact ⟨0, Nat.zero_le _, rfl, by rw [Hid]; simp⟩
  case round =>
    obtain ⟨k, hk, rfl, HE⟩ := hrel
    by_cases hlt : k < s.size
    · have HA := Lib.hid (cnt_at innB s k hlt)
      have HP := Lib.hid (fun W => inNumber_any s[k] W)
      cases hp : innB s[k] with
      | true =>
        rw [hp, Hid, if_pos rfl] at HA
        have HX : Hid (cnt innB s.data.toList = (k + 1) + cnt innB (s.data.toList.drop (k + 1))) := by rw [Hid, HE.out, HA]; omega
        rw [hp] at HP
        clear hp HA
        go_wp2_with (go_at_call 97; refine (HP.out _).mono ?_; rintro e w' ⟨rfl, rfl⟩)
        go_round
        case rel => exact ⟨k + 1, by omega, by go_num, HX.out⟩
        case measure => simp [intOf]; omega
      | false =>
        rw [hp, Hid, if_neg (by simp)] at HA
        have HX : Hid (cnt innB s.data.toList = k) := by rw [Hid, HE.out, HA]; omega
        rw [hp] at HP
        clear hp HA
        go_wp2_with (go_at_call 97; refine (HP.out _).mono ?_; rintro e w' ⟨rfl, rfl⟩)
        go_ret
        exact ⟨by rw [HX.out]; rfl, rfl⟩
    · obtain rfl : k = s.size := by omega
      have HX : Hid (cnt innB s.data.toList = s.size) := by rw [Hid, HE.out, List.drop_eq_nil_of_le (by simp)]; simp [cnt]
      clear HE
      go_wp2
      go_ret
      exact ⟨by rw [HX.out]; rfl, rfl⟩
theorem ahead_letter (s : ByteArray) (w : World) (hs : s.size ≤ 9000000) : Calls Tryz.prog 71 #[.string s, .func (.func 99) #[] #[]] w fun e w' => e = .returned (.int .i64 (cnt letB s.data.toList)) ∧ w = w' := by
  go_enter Tryz.func71, Tryz.ntmps71
  go_wp2
  go_loop [5, 8] (fun _ i => ∃ k : Nat, k ≤ s.size ∧ i = .int .i64 k ∧ Hid (cnt letB s.data.toList = k + cnt letB (s.data.toList.drop k))) (fun _ i => s.size - (intOf i).toNat)
  case atStart => exact ⟨0, Nat.zero_le _, rfl, by rw [Hid]; simp⟩
  case round =>
    obtain ⟨k, hk, rfl, HE⟩ := hrel
    by_cases hlt : k < s.size
    · have HA := Lib.hid (cnt_at letB s k hlt)
      have HP := Lib.hid (fun W => isLetter_any s[k] W)
      cases hp : letB s[k] with
      | true =>
        rw [hp, Hid, if_pos rfl] at HA
        have HX : Hid (cnt letB s.data.toList = (k + 1) + cnt letB (s.data.toList.drop (k + 1))) := by rw [Hid, HE.out, HA]; omega
        rw [hp] at HP
        clear hp HA
        go_wp2_with (go_at_call 99; refine (HP.out _).mono ?_; rintro e w' ⟨rfl, rfl⟩)
        go_round
        case rel => exact ⟨k + 1, by omega, by go_num, HX.out⟩
        case measure => simp [intOf]; omega
      | false =>
        rw [hp, Hid, if_neg (by simp)] at HA
        have HX : Hid (cnt letB s.data.toList = k) := by rw [Hid, HE.out, HA]; omega
        rw [hp] at HP
        clear hp HA
        go_wp2_with (go_at_call 99; refine (HP.out _).mono ?_; rintro e w' ⟨rfl, rfl⟩)
        go_ret
        exact ⟨by rw [HX.out]; rfl, rfl⟩
    · obtain rfl : k = s.size := by omega
      have HX : Hid (cnt letB s.data.toList = s.size) := by rw [Hid, HE.out, List.drop_eq_nil_of_le (by simp)]; simp [cnt]
      clear HE
      go_wp2
      go_ret
      exact ⟨by rw [HX.out]; rfl, rfl⟩
end
section
open Go.ChangeShapes Go.WideShapes Go.ChangeAt Go.RowKit
set_option linter.unusedVariables false
attribute [local go_sem ↓] Go.wp_at_zero Go.wp_at_succ
variable {w : World}
theorem rdigit_any (c : UInt8) (w : World) : Calls Tryz.prog 118 #[.int .u8 (c.toNat : Int)] w fun e w' => e = .returned (.bool (digB c)) ∧ w = w' := by
  by_cases h0 : 48 ≤ c.toNat
  · by_cases h1 : c.toNat ≤ 57
    · have a0 : (48 : Int) ≤ (c.toNat : Int) := by omega
      have a1 : (c.toNat : Int) ≤ 57 := by omega
      have H : Hid (digB c = true) := (digB_iff c).2 ⟨h0, h1⟩
      clear h0 h1
      go_enter Tryz.func118, Tryz.ntmps118
      go_wp2
      go_ret
      exact ⟨by rw [H.out]; rfl, rfl⟩
    · have a0 : (48 : Int) ≤ (c.toNat : Int) := by omega
      have a1 : ¬ (c.toNat : Int) ≤ 57 := by omega
      have H : Hid (digB c = false) := by rw [Hid, digB]; simp; omega
      clear h0 h1
      go_enter Tryz.func118, Tryz.ntmps118
      go_wp2
      go_ret
      exact ⟨by rw [H.out]; rfl, rfl⟩
  · have a0 : ¬ (48 : Int) ≤ (c.toNat : Int) := by omega
    have H : Hid (digB c = false) := by rw [Hid, digB]; simp; omega
    clear h0
    go_enter Tryz.func118, Tryz.ntmps118
    go_wp2
    go_ret
    exact ⟨by rw [H.out]; rfl, rfl⟩
def mostP : List UInt8 := [57, 50, 50, 51, 51, 55, 50, 48, 51, 54, 56, 53, 52, 55, 55, 53, 56, 48, 55]
def mostM : List UInt8 := [57, 50, 50, 51, 51, 55, 50, 48, 51, 54, 56, 53, 52, 55, 55, 53, 56, 48, 56]
theorem mostP_num : num mostP = 9223372036854775807 := by decide +kernel
theorem mostM_num : num mostM = 9223372036854775808 := by decide +kernel
theorem mostP_dig : ∀ c ∈ mostP, digB c = true := by decide +kernel
theorem mostM_dig : ∀ c ∈ mostM, digB c = true := by decide +kernel
structure Dig (d : ByteArray) (k : Nat) : Prop where
  all : ∀ c ∈ d.data.toList.take k, digB c = true
theorem Dig.none (d : ByteArray) : Dig d 0 := ⟨fun c h => by simp at h⟩
theorem Dig.next {d : ByteArray} {k : Nat} (h : Dig d k) (hk : k < d.size) (hc : digB d[k] = true) : Dig d (k + 1) := ⟨fun c hm => by
  rw [take_snoc d k hk] at hm
  rcases List.mem_append.1 hm with hm | hm
  · exact h.all c hm
  · rw [List.mem_singleton] at hm; subst hm; exact hc⟩
theorem no_digits {d : ByteArray} {k : Nat} (hk : k < d.size) (hc : digB d[k] = false) : digits d.data.toList = false := by
  cases h : digits d.data.toList with
  | false => rfl
  | true =>
    have := ((digits_iff _).1 h).2.1 d[k] (List.getElem_mem (by simpa using hk))
    rw [hc] at this
    cases this
theorem num_take_snoc (d : ByteArray) (k : Nat) (hk : k < d.size) : num (d.data.toList.take (k + 1)) = num (d.data.toList.take k) * 10 + (d[k].toNat - 48) := by
  rw [take_snoc d k hk, num, num, numA_snoc]
theorem rwhole_minus (d s : ByteArray) (w : World) (hd : d.size ≤ 9000000) (hp : 0 < s.size) (hg : s[0] = 45) (hc : s.extract 1 s.size = d) (hne : s.toList.isEmpty = false) :
    Calls Tryz.prog 88 #[.string s] w fun e w' => e = .returned (.tuple #[.int .i64 (if digits d.data.toList = true ∧ num d.data.toList ≤ 9223372036854775808 then -(num d.data.toList : Int) else 0), .int .i64 (if digits d.data.toList = true then (if num d.data.toList ≤ 9223372036854775808 then 0 else 7) else 12)]) ∧ w = w' := by
  have hX1 : digits d.data.toList = false → (if digits d.data.toList = true ∧ num d.data.toList ≤ 9223372036854775808 then -(num d.data.toList : Int) else (0 : Int)) = 0 ∧ (if digits d.data.toList = true then (if num d.data.toList ≤ 9223372036854775808 then (0 : Int) else 7) else 12) = 12 := fun h => by rw [h]; exact ⟨if_neg (by simp), if_neg (by simp)⟩
  have hX2 : digits d.data.toList = true → ¬ num d.data.toList ≤ 9223372036854775808 → (if digits d.data.toList = true ∧ num d.data.toList ≤ 9223372036854775808 then -(num d.data.toList : Int) else (0 : Int)) = 0 ∧ (if digits d.data.toList = true then (if num d.data.toList ≤ 9223372036854775808 then (0 : Int) else 7) else 12) = 7 := fun h k => ⟨if_neg (fun e => k e.2), by rw [if_pos h, if_neg k]⟩
  have hX3 : digits d.data.toList = true → num d.data.toList ≤ 9223372036854775808 → (if digits d.data.toList = true ∧ num d.data.toList ≤ 9223372036854775808 then -(num d.data.toList : Int) else (0 : Int)) = -(num d.data.toList : Int) ∧ (if digits d.data.toList = true then (if num d.data.toList ≤ 9223372036854775808 then (0 : Int) else 7) else 12) = 0 := fun h k => ⟨if_pos ⟨h, k⟩, by rw [if_pos h, if_pos k]⟩
  generalize (if digits d.data.toList = true ∧ num d.data.toList ≤ 9223372036854775808 then -(num d.data.toList : Int) else (0 : Int)) = v at *
  generalize (if digits d.data.toList = true then (if num d.data.toList ≤ 9223372036854775808 then (0 : Int) else 7) else 12) = x at *
  have HX1 := Lib.hid hX1
  have HX2 := Lib.hid hX2
  have HX3 := Lib.hid hX3
  clear hX1 hX2 hX3
  have hg2 : ((s[0].toNat : Int) == 45) = true := by rw [hg]; rfl
  clear hg
  by_cases h0 : d.size = 0
  · obtain rfl : d = ⟨#[]⟩ := ByteArray.ext (Array.eq_empty_of_size_eq_zero h0)
    have HE := Lib.hid (HX1.out (by rfl))
    clear HX1 HX2 HX3 h0 hd
    go_enter Tryz.func88, Tryz.ntmps88
    go_wp2
    go_ret2
    exact ⟨by rw [HE.out.1, HE.out.2]; rfl, rfl⟩
  have hpos : 0 < d.size := by omega
  have HD0 : Hid (∀ W, Calls Tryz.prog 118 #[.int .u8 (d[0].toNat : Int)] W fun e w' => e = .returned (.bool (digB d[0])) ∧ W = w') := fun W => rdigit_any d[0] W
  clear HD0
  have hhead : d.data.toList.head? = some d[0] := by
    have h1 := List.drop_eq_getElem_cons (l := d.data.toList) (i := 0) (by simpa using hpos)
    rw [List.drop_zero] at h1
    rw [h1]; rfl
  by_cases hz : d[0].toNat = 48 ∧ 1 < d.size
  · obtain ⟨hz1, hz2⟩ := hz
    have HE := Lib.hid (HX1.out (by
      cases h : digits d.data.toList with
      | false => rfl
      | true =>
        rcases ((digits_iff _).1 h).2.2 with k | k
        · rw [hhead] at k
          exact absurd (by rw [(UInt8.toNat_inj.1 hz1 : d[0] = 48)]) k
        · have := congrArg List.length k
          simp at this
          have : d.size = d.data.size := rfl
          omega))
    have e48 : ((d[0].toNat : Int) == 48) = true := by rw [hz1]; rfl
    clear HX1 HX2 HX3 hz1 hhead
    go_enter Tryz.func88, Tryz.ntmps88
    go_wp2
    go_ret2
    exact ⟨by rw [HE.out.1, HE.out.2]; rfl, rfl⟩
  have HD : Hid ((∀ c ∈ d.data.toList, digB c = true) → digits d.data.toList = true) := fun h => by
    refine (digits_iff _).2 ⟨fun e => ?_, h, ?_⟩
    · rw [e] at hhead; cases hhead
    · by_cases h1 : d[0].toNat = 48
      · refine .inr ?_
        have hs1 : d.size = 1 := by omega
        have : d.data.toList = [d[0]] := by
          apply List.ext_getElem
          · simp; exact hs1
          · intro i h1 h2
            simp at h2
            subst h2
            rfl
        rw [this, (UInt8.toNat_inj.1 h1 : d[0] = 48)]
      · refine .inl ?_
        rw [hhead]
        intro e
        injection e with e
        exact h1 (by rw [e]; rfl)
  have hcond : (((d[0].toNat : Int) == 48) = false ∧ 1 < d.size) ∨ (¬ 1 < d.size) := by
    by_cases h1 : 1 < d.size
    · refine .inl ⟨?_, h1⟩
      rw [beq_eq_false_iff_ne]
      intro e
      exact hz ⟨by omega, h1⟩
    · exact .inr h1
  clear hz hhead
  have hz0 : ((d.size : Int) == 0) = false := by rw [beq_eq_false_iff_ne]; omega
  rcases hcond with ⟨k1, k2⟩ | k2
  all_goals
    go_enter Tryz.func88, Tryz.ntmps88
    go_wp2
    go_loop [5] (fun a5 => ∃ k : Nat, k ≤ d.size ∧ a5 = .int .i64 k ∧ Hid (Dig d k)) (fun a5 => d.size - (intOf a5).toNat)
    case atStart => exact ⟨0, Nat.zero_le _, rfl, Dig.none d⟩
    case round =>
      obtain ⟨k, hk, rfl, HK⟩ := hrel
      by_cases hlt : k < d.size
      · have HP := Lib.hid (fun W => rdigit_any d[k] W)
        cases hc : digB d[k] with
        | false =>
          rw [hc] at HP
          have HE := Lib.hid (HX1.out (no_digits hlt hc))
          clear hc
          go_wp2_with (go_at_call 118; refine (HP.out _).mono ?_; rintro e w' ⟨rfl, rfl⟩)
          go_ret2
          exact ⟨by rw [HE.out.1, HE.out.2]; rfl, rfl⟩
        | true =>
          rw [hc] at HP
          have HK2 := Lib.hid (HK.out.next hlt hc)
          clear hc
          go_wp2_with (go_at_call 118; refine (HP.out _).mono ?_; rintro e w' ⟨rfl, rfl⟩)
          go_round
          case rel => exact ⟨k + 1, by omega, by go_num, HK2.out⟩
          case measure => simp [intOf]; omega
      · obtain rfl : k = d.size := by omega
        have hall : ∀ c ∈ d.data.toList, digB c = true := fun c hc => HK.out.all c (by rw [List.take_of_length_le (by simp)]; exact hc)
        have hdg := HD.out hall
        have hmd := most_digits d.data.toList mostM hdg rfl mostM_dig (by rw [mostM_num]; decide)
        rw [mostM_num] at hmd
        have hln : d.data.toList.length = d.size := by simp
        rw [hln] at hmd
        have HDG := Lib.hid hdg
        clear HD HX1 hln hdg HK
        by_cases hm : num d.data.toList ≤ 9223372036854775808
        · have HE := Lib.hid (HX3.out HDG.out hm)
          have hno : ¬ (19 < d.size ∨ d.size = 19 ∧ (Op.bytesLess d.data.toList mostM || d.data.toList == mostM) = false) := fun e => by have := hmd.1 e; omega
          have h19 : d.size < 19 ∨ (d.size = 19 ∧ (Op.bytesLess d.data.toList mostM || d.data.toList == mostM) = true) := by
            rcases Nat.lt_trichotomy d.size 19 with h | h | h
            · exact .inl h
            · refine .inr ⟨h, ?_⟩
              cases hb : (Op.bytesLess d.data.toList mostM || d.data.toList == mostM) with
              | true => rfl
              | false => exact absurd (.inr ⟨h, hb⟩) hno
            · exact absurd (.inl h) hno
          have HM : Hid (num d.data.toList ≤ 9223372036854775808) := hm
          have HALL := Lib.hid hall
          clear hmd hno HX2 HX3 hall hm hlt
          have htl : d.toList = d.data.toList := Lib.toList_data d
          have h3 : (d.size < 19 ∧ ((d.size : Int) == 19) = false) ∨ (((d.size : Int) == 19) = true ∧ Op.bytesLess d.toList [57, 50, 50, 51, 51, 55, 50, 48, 51, 54, 56, 53, 52, 55, 55, 53, 56, 48, 56] = true) ∨ (((d.size : Int) == 19) = true ∧ (d.toList == [57, 50, 50, 51, 51, 55, 50, 48, 51, 54, 56, 53, 52, 55, 55, 53, 56, 48, 56]) = true) := by
            rw [htl]
            rcases h19 with h | ⟨h, hg⟩
            · exact .inl ⟨h, by rw [beq_eq_false_iff_ne]; omega⟩
            · rw [Bool.or_eq_true] at hg
              rcases hg with hg | hg
              · exact .inr (.inl ⟨by rw [h]; rfl, hg⟩)
              · exact .inr (.inr ⟨by rw [h]; rfl, hg⟩)
          have a1 : ¬ 19 < d.size := by rcases h19 with h | ⟨h, _⟩ <;> omega
          clear h19 htl
          rcases h3 with ⟨_, a2⟩ | ⟨a2, hgt⟩ | ⟨a2, hgt⟩
          all_goals
            go_wp2
            go_loop [7, 8] (fun a7 a8 => ∃ (k : Nat) (y : Int), k ≤ d.size ∧ a8 = .int .i64 k ∧ a7 = .int .i64 y ∧ Hid (y = -(num (d.data.toList.take k) : Int))) (fun _ a8 => d.size - (intOf a8).toNat)
            case atStart => exact ⟨0, 0, Nat.zero_le _, rfl, rfl, by rw [Hid]; rfl⟩
            case round =>
              obtain ⟨k, y, hk2, rfl, rfl, HY⟩ := hrel
              by_cases hlt : k < d.size
              · have hc := (digB_iff d[k]).1 (HALL.out d[k] (List.getElem_mem (by simpa using hlt)))
                have hs := num_take_snoc d k hlt
                have hle := num_take d.data.toList (k + 1)
                have hM := HM.out
                have hy := HY.out
                have w1 : IntKind.i64.wrap (y * 10) = y * 10 := IntWalk.i64_in _ (by omega)
                have w2 : IntKind.i64.wrap (y * 10 - ((d[k].toNat : Int) - 48)) = y * 10 - ((d[k].toNat : Int) - 48) := IntWalk.i64_in _ (by omega)
                have HY2 : Hid (y * 10 - ((d[k].toNat : Int) - 48) = -(num (d.data.toList.take (k + 1)) : Int)) := by rw [Hid]; omega
                have c0 : (48 : Int) ≤ (d[k].toNat : Int) := by omega
                have c1 : (d[k].toNat : Int) ≤ 57 := by omega
                clear hc hs hle hM hy
                go_wp2
                go_round
                case rel => exact ⟨k + 1, y * 10 - ((d[k].toNat : Int) - 48), by omega, by go_num, rfl, HY2.out⟩
                case measure => simp [intOf]; omega
              · obtain rfl : k = d.size := by omega
                have HV : Hid (v = y) := by rw [Hid, HE.out.1, HY.out, List.take_of_length_le (by simp)]
                have HX := Lib.hid HE.out.2
                clear hlt HE
                go_wp2
                go_ret2
                exact ⟨by rw [HV.out, HX.out]; rfl, rfl⟩
        · have HE := Lib.hid (HX2.out HDG.out hm)
          have h19 := hmd.2 (by omega)
          clear hmd HX2 HX3 hall hm hlt
          rcases h19 with h | ⟨h, hg⟩
          · go_wp2
            all_goals
              go_ret2
              exact ⟨by rw [HE.out.1, HE.out.2]; rfl, rfl⟩
          · have htl : d.toList = d.data.toList := Lib.toList_data d
            rw [← htl, Bool.or_eq_false_iff] at hg
            obtain ⟨g1, g2⟩ := hg
            have g1' : Op.bytesLess d.toList [57, 50, 50, 51, 51, 55, 50, 48, 51, 54, 56, 53, 52, 55, 55, 53, 56, 48, 56] = false := g1
            have g2' : (d.toList == [57, 50, 50, 51, 51, 55, 50, 48, 51, 54, 56, 53, 52, 55, 55, 53, 56, 48, 56]) = false := g2
            clear g1 g2 htl
            have a1 : ¬ 19 < d.size := by omega
            have a2 : ((d.size : Int) == 19) = true := by rw [h]; rfl
            clear h
            go_wp2
            go_ret2
            exact ⟨by rw [HE.out.1, HE.out.2]; rfl, rfl⟩
theorem rwhole_plain (d : ByteArray) (w : World) (hd : d.size ≤ 9000000) (hn : d.size = 0 ∨ ∃ h : 0 < d.size, d[0].toNat ≠ 45) :
    Calls Tryz.prog 88 #[.string d] w fun e w' => e = .returned (.tuple #[.int .i64 (if digits d.data.toList = true ∧ num d.data.toList ≤ 9223372036854775807 then (num d.data.toList : Int) else 0), .int .i64 (if digits d.data.toList = true then (if num d.data.toList ≤ 9223372036854775807 then 0 else 7) else 12)]) ∧ w = w' := by
  have hX1 : digits d.data.toList = false → (if digits d.data.toList = true ∧ num d.data.toList ≤ 9223372036854775807 then (num d.data.toList : Int) else (0 : Int)) = 0 ∧ (if digits d.data.toList = true then (if num d.data.toList ≤ 9223372036854775807 then (0 : Int) else 7) else 12) = 12 := fun h => by rw [h]; exact ⟨if_neg (by simp), if_neg (by simp)⟩
  have hX2 : digits d.data.toList = true → ¬ num d.data.toList ≤ 9223372036854775807 → (if digits d.data.toList = true ∧ num d.data.toList ≤ 9223372036854775807 then (num d.data.toList : Int) else (0 : Int)) = 0 ∧ (if digits d.data.toList = true then (if num d.data.toList ≤ 9223372036854775807 then (0 : Int) else 7) else 12) = 7 := fun h k => ⟨if_neg (fun e => k e.2), by rw [if_pos h, if_neg k]⟩
  have hX3 : digits d.data.toList = true → num d.data.toList ≤ 9223372036854775807 → (if digits d.data.toList = true ∧ num d.data.toList ≤ 9223372036854775807 then (num d.data.toList : Int) else (0 : Int)) = (num d.data.toList : Int) ∧ (if digits d.data.toList = true then (if num d.data.toList ≤ 9223372036854775807 then (0 : Int) else 7) else 12) = 0 := fun h k => ⟨if_pos ⟨h, k⟩, by rw [if_pos h, if_pos k]⟩
  generalize (if digits d.data.toList = true ∧ num d.data.toList ≤ 9223372036854775807 then (num d.data.toList : Int) else (0 : Int)) = v at *
  generalize (if digits d.data.toList = true then (if num d.data.toList ≤ 9223372036854775807 then (0 : Int) else 7) else 12) = x at *
  have HX1 := Lib.hid hX1
  have HX2 := Lib.hid hX2
  have HX3 := Lib.hid hX3
  clear hX1 hX2 hX3
  by_cases h0 : d.size = 0
  · obtain rfl : d = ⟨#[]⟩ := ByteArray.ext (Array.eq_empty_of_size_eq_zero h0)
    have HE := Lib.hid (HX1.out (by rfl))
    clear HX1 HX2 HX3 h0 hd hn
    go_enter Tryz.func88, Tryz.ntmps88
    go_wp2
    go_ret2
    exact ⟨by rw [HE.out.1, HE.out.2]; rfl, rfl⟩
  have hpos : 0 < d.size := by omega
  have hne45 : ((d[0].toNat : Int) == 45) = false := by
    rcases hn with h | ⟨_, h⟩
    · omega
    · rw [beq_eq_false_iff_ne]; omega
  have hne : d.toList.isEmpty = false := by
    rw [Lib.toList_data]
    cases hl : d.data.toList with
    | nil =>
      have h1 : d.data.toList.length = d.size := by simp
      rw [hl, List.length_nil] at h1
      omega
    | cons a b => rfl
  clear hn
  have HD0 : Hid (∀ W, Calls Tryz.prog 118 #[.int .u8 (d[0].toNat : Int)] W fun e w' => e = .returned (.bool (digB d[0])) ∧ W = w') := fun W => rdigit_any d[0] W
  clear HD0
  have hhead : d.data.toList.head? = some d[0] := by
    have h1 := List.drop_eq_getElem_cons (l := d.data.toList) (i := 0) (by simpa using hpos)
    rw [List.drop_zero] at h1
    rw [h1]; rfl
  by_cases hz : d[0].toNat = 48 ∧ 1 < d.size
  · obtain ⟨hz1, hz2⟩ := hz
    have HE := Lib.hid (HX1.out (by
      cases h : digits d.data.toList with
      | false => rfl
      | true =>
        rcases ((digits_iff _).1 h).2.2 with k | k
        · rw [hhead] at k
          exact absurd (by rw [(UInt8.toNat_inj.1 hz1 : d[0] = 48)]) k
        · have := congrArg List.length k
          simp at this
          have : d.size = d.data.size := rfl
          omega))
    have e48 : ((d[0].toNat : Int) == 48) = true := by rw [hz1]; rfl
    clear HX1 HX2 HX3 hz1 hhead
    go_enter Tryz.func88, Tryz.ntmps88
    go_wp2
    go_ret2
    exact ⟨by rw [HE.out.1, HE.out.2]; rfl, rfl⟩
  have HD : Hid ((∀ c ∈ d.data.toList, digB c = true) → digits d.data.toList = true) := fun h => by
    refine (digits_iff _).2 ⟨fun e => ?_, h, ?_⟩
    · rw [e] at hhead; cases hhead
    · by_cases h1 : d[0].toNat = 48
      · refine .inr ?_
        have hs1 : d.size = 1 := by omega
        have : d.data.toList = [d[0]] := by
          apply List.ext_getElem
          · simp; exact hs1
          · intro i h1 h2
            simp at h2
            subst h2
            rfl
        rw [this, (UInt8.toNat_inj.1 h1 : d[0] = 48)]
      · refine .inl ?_
        rw [hhead]
        intro e
        injection e with e
        exact h1 (by rw [e]; rfl)
  have hcond : (((d[0].toNat : Int) == 48) = false ∧ 1 < d.size) ∨ (¬ 1 < d.size) := by
    by_cases h1 : 1 < d.size
    · refine .inl ⟨?_, h1⟩
      rw [beq_eq_false_iff_ne]
      intro e
      exact hz ⟨by omega, h1⟩
    · exact .inr h1
  clear hz hhead
  have hz0 : ((d.size : Int) == 0) = false := by rw [beq_eq_false_iff_ne]; omega
  rcases hcond with ⟨k1, k2⟩ | k2
  all_goals
    go_enter Tryz.func88, Tryz.ntmps88
    go_wp2
    go_loop [5] (fun a5 => ∃ k : Nat, k ≤ d.size ∧ a5 = .int .i64 k ∧ Hid (Dig d k)) (fun a5 => d.size - (intOf a5).toNat)
    case atStart => exact ⟨0, Nat.zero_le _, rfl, Dig.none d⟩
    case round =>
      obtain ⟨k, hk, rfl, HK⟩ := hrel
      by_cases hlt : k < d.size
      · have HP := Lib.hid (fun W => rdigit_any d[k] W)
        cases hc : digB d[k] with
        | false =>
          rw [hc] at HP
          have HE := Lib.hid (HX1.out (no_digits hlt hc))
          clear hc
          go_wp2_with (go_at_call 118; refine (HP.out _).mono ?_; rintro e w' ⟨rfl, rfl⟩)
          go_ret2
          exact ⟨by rw [HE.out.1, HE.out.2]; rfl, rfl⟩
        | true =>
          rw [hc] at HP
          have HK2 := Lib.hid (HK.out.next hlt hc)
          clear hc
          go_wp2_with (go_at_call 118; refine (HP.out _).mono ?_; rintro e w' ⟨rfl, rfl⟩)
          go_round
          case rel => exact ⟨k + 1, by omega, by go_num, HK2.out⟩
          case measure => simp [intOf]; omega
      · obtain rfl : k = d.size := by omega
        have hall : ∀ c ∈ d.data.toList, digB c = true := fun c hc => HK.out.all c (by rw [List.take_of_length_le (by simp)]; exact hc)
        have hdg := HD.out hall
        have hmd := most_digits d.data.toList mostP hdg rfl mostP_dig (by rw [mostP_num]; decide)
        rw [mostP_num] at hmd
        have hln : d.data.toList.length = d.size := by simp
        rw [hln] at hmd
        have HDG := Lib.hid hdg
        clear HD HX1 hln hdg HK
        by_cases hm : num d.data.toList ≤ 9223372036854775807
        · have HE := Lib.hid (HX3.out HDG.out hm)
          have hno : ¬ (19 < d.size ∨ d.size = 19 ∧ (Op.bytesLess d.data.toList mostP || d.data.toList == mostP) = false) := fun e => by have := hmd.1 e; omega
          have h19 : d.size < 19 ∨ (d.size = 19 ∧ (Op.bytesLess d.data.toList mostP || d.data.toList == mostP) = true) := by
            rcases Nat.lt_trichotomy d.size 19 with h | h | h
            · exact .inl h
            · refine .inr ⟨h, ?_⟩
              cases hb : (Op.bytesLess d.data.toList mostP || d.data.toList == mostP) with
              | true => rfl
              | false => exact absurd (.inr ⟨h, hb⟩) hno
            · exact absurd (.inl h) hno
          have HM : Hid (num d.data.toList ≤ 9223372036854775807) := hm
          have HALL := Lib.hid hall
          clear hmd hno HX2 HX3 hall hm hlt
          have htl : d.toList = d.data.toList := Lib.toList_data d
          have h3 : (d.size < 19 ∧ ((d.size : Int) == 19) = false) ∨ (((d.size : Int) == 19) = true ∧ Op.bytesLess d.toList [57, 50, 50, 51, 51, 55, 50, 48, 51, 54, 56, 53, 52, 55, 55, 53, 56, 48, 55] = true) ∨ (((d.size : Int) == 19) = true ∧ (d.toList == [57, 50, 50, 51, 51, 55, 50, 48, 51, 54, 56, 53, 52, 55, 55, 53, 56, 48, 55]) = true) := by
            rw [htl]
            rcases h19 with h | ⟨h, hg⟩
            · exact .inl ⟨h, by rw [beq_eq_false_iff_ne]; omega⟩
            · rw [Bool.or_eq_true] at hg
              rcases hg with hg | hg
              · exact .inr (.inl ⟨by rw [h]; rfl, hg⟩)
              · exact .inr (.inr ⟨by rw [h]; rfl, hg⟩)
          have a1 : ¬ 19 < d.size := by rcases h19 with h | ⟨h, _⟩ <;> omega
          clear h19 htl
          rcases h3 with ⟨_, a2⟩ | ⟨a2, hgt⟩ | ⟨a2, hgt⟩
          all_goals
            go_wp2
            go_loop [7, 8] (fun a7 a8 => ∃ (k : Nat) (y : Int), k ≤ d.size ∧ a8 = .int .i64 k ∧ a7 = .int .i64 y ∧ Hid (y = (num (d.data.toList.take k) : Int))) (fun _ a8 => d.size - (intOf a8).toNat)
            case atStart => exact ⟨0, 0, Nat.zero_le _, rfl, rfl, by rw [Hid]; rfl⟩
            case round =>
              obtain ⟨k, y, hk2, rfl, rfl, HY⟩ := hrel
              by_cases hlt : k < d.size
              · have hc := (digB_iff d[k]).1 (HALL.out d[k] (List.getElem_mem (by simpa using hlt)))
                have hs := num_take_snoc d k hlt
                have hle := num_take d.data.toList (k + 1)
                have hM := HM.out
                have hy := HY.out
                have w1 : IntKind.i64.wrap (y * 10) = y * 10 := IntWalk.i64_in _ (by omega)
                have w2 : IntKind.i64.wrap (y * 10 + ((d[k].toNat : Int) - 48)) = y * 10 + ((d[k].toNat : Int) - 48) := IntWalk.i64_in _ (by omega)
                have HY2 : Hid (y * 10 + ((d[k].toNat : Int) - 48) = (num (d.data.toList.take (k + 1)) : Int)) := by rw [Hid]; omega
                have c0 : (48 : Int) ≤ (d[k].toNat : Int) := by omega
                have c1 : (d[k].toNat : Int) ≤ 57 := by omega
                clear hc hs hle hM hy
                go_wp2
                go_round
                case rel => exact ⟨k + 1, y * 10 + ((d[k].toNat : Int) - 48), by omega, by go_num, rfl, HY2.out⟩
                case measure => simp [intOf]; omega
              · obtain rfl : k = d.size := by omega
                have HV : Hid (v = y) := by rw [Hid, HE.out.1, HY.out, List.take_of_length_le (by simp)]
                have HX := Lib.hid HE.out.2
                clear hlt HE
                go_wp2
                go_ret2
                exact ⟨by rw [HV.out, HX.out]; rfl, rfl⟩
        · have HE := Lib.hid (HX2.out HDG.out hm)
          have h19 := hmd.2 (by omega)
          clear hmd HX2 HX3 hall hm hlt
          rcases h19 with h | ⟨h, hg⟩
          · go_wp2
            all_goals
              go_ret2
              exact ⟨by rw [HE.out.1, HE.out.2]; rfl, rfl⟩
          · have htl : d.toList = d.data.toList := Lib.toList_data d
            rw [← htl, Bool.or_eq_false_iff] at hg
            obtain ⟨g1, g2⟩ := hg
            have g1' : Op.bytesLess d.toList [57, 50, 50, 51, 51, 55, 50, 48, 51, 54, 56, 53, 52, 55, 55, 53, 56, 48, 55] = false := g1
            have g2' : (d.toList == [57, 50, 50, 51, 51, 55, 50, 48, 51, 54, 56, 53, 52, 55, 55, 53, 56, 48, 55]) = false := g2
            clear g1 g2 htl
            have a1 : ¬ 19 < d.size := by omega
            have a2 : ((d.size : Int) == 19) = true := by rw [h]; rfl
            clear h
            go_wp2
            go_ret2
            exact ⟨by rw [HE.out.1, HE.out.2]; rfl, rfl⟩
theorem rwhole_any (s : ByteArray) (w : World) (hs : s.size ≤ 9000000) : Calls Tryz.prog 88 #[.string s] w fun e w' => e = .returned (.tuple #[.int .i64 (wholeV s.data.toList), .int .i64 (wholeE s.data.toList)]) ∧ w = w' := by
  cases hm : minus s.data.toList with
  | true =>
    obtain ⟨r, hr⟩ := minus_of hm
    obtain rfl : s = bs (45 :: r) := ByteArray.ext (Array.toList_inj.1 (by rw [hr]; simp [bs]))
    have hz := bs_size (45 :: r)
    have hzr := bs_size r
    rw [List.length_cons] at hz
    obtain ⟨p1, p2, p3, p4⟩ := bs_cons 45 r
    have h := rwhole_minus (bs r) (bs (45 :: r)) w (by omega) p1 p2 p3 p4
    rw [bs_toList] at h
    rw [bs_toList]
    have e1 : wholeV (45 :: r) = if digits r = true ∧ num r ≤ 9223372036854775808 then -(num r : Int) else 0 := by
      rw [wholeV, behind_minus]; rfl
    have e2 : wholeE (45 :: r) = if digits r = true then (if num r ≤ 9223372036854775808 then 0 else 7) else 12 := by
      rw [wholeE, behind_minus]; rfl
    rw [e1, e2]
    exact h
  | false =>
    have hb := behind_other _ (minus_no hm)
    have hn : s.size = 0 ∨ ∃ h : 0 < s.size, s[0].toNat ≠ 45 := by
      by_cases h0 : s.size = 0
      · exact .inl h0
      · refine .inr ⟨by omega, fun e => ?_⟩
        have h1 := List.drop_eq_getElem_cons (l := s.data.toList) (i := 0) (by simp; omega)
        rw [List.drop_zero] at h1
        refine minus_no hm (s.data.toList.drop 1) (h1.trans ?_)
        congr 1
        exact UInt8.toNat_inj.1 e
    have h := rwhole_plain s w hs hn
    have hmo : most s.data.toList = 9223372036854775807 := by rw [most, hm]; rfl
    have e1 : wholeV s.data.toList = if digits s.data.toList = true ∧ num s.data.toList ≤ 9223372036854775807 then (num s.data.toList : Int) else 0 := by
      rw [wholeV, hb, hmo, hm]; rfl
    have e2 : wholeE s.data.toList = if digits s.data.toList = true then (if num s.data.toList ≤ 9223372036854775807 then 0 else 7) else 12 := by
      rw [wholeE, hb, hmo]
    rw [e1, e2]
    exact h
end
namespace y
def alB (c : UInt8) : Bool := digB c || letB c
def onlyB (o l : List UInt8) : Bool := l.all fun c => alB c || o.contains c
def inW : List UInt8 := [46, 95, 47, 58, 64, 43, 45]
def inK : List UInt8 := [46, 95, 47, 45]
def headB (l : List UInt8) : Bool := match l with
  | [] => false
  | c :: _ => letB c || decide (c.toNat = 95)
def keyB (l : List UInt8) : Bool := headB l && (!namedB l && onlyB inK l)
def zV : v.V := .mk 0 false 0 ⟨#[]⟩ [] []
def vFlag (b : Bool) : v.V := .mk 1 b 0 ⟨#[]⟩ [] []
def vInt (n : Int) : v.V := .mk 2 false n ⟨#[]⟩ [] []
def vText (l : List UInt8) : v.V := .mk 3 false 0 (tx l) [] []
def vList (l : List v.V) : v.V := .mk 4 false 0 ⟨#[]⟩ l []
def vKeys (l : List (ByteArray × v.V)) : v.V := .mk 5 false 0 ⟨#[]⟩ [] l
def endB (l : List UInt8) : Bool := match l with
  | [] => true
  | c :: _ => decide (c.toNat = 32)
def colon : List UInt8 → Option Nat
  | [] => none
  | c :: r => if c.toNat = 58 ∧ endB r = true then some 0 else (colon r).map (· + 1)
def lead (l : List UInt8) : List UInt8 := l.drop (blanks l)
structure Ent where
  key : List UInt8
  quoted : Bool
  behind : List UInt8
def restE (k r : List UInt8) : Int × Option Ent := match r with
  | [] => (0, none)
  | c :: t => if c.toNat = 58 ∧ endB t = true then (0, some ⟨k, true, lead t⟩) else (6, none)
def entM (l : List UInt8) : Int × Option Ent :=
  if l.head? = some 34 then (if (unqF l).2.2 ≠ 0 then ((unqF l).2.2, none) else restE (unqF l).1 (l.drop (unqF l).2.1))
  else match colon l with
    | none => (0, none)
    | some i => (0, some ⟨l.take i, false, lead (l.drop (i + 1))⟩)
def wordM (l : List UInt8) : Int × v.V :=
  if startB (l.headD 0) = true then (if wholeE l ≠ 0 then (wholeE l, zV) else (0, vInt (wholeV l)))
  else if 4096 < l.length then (2, zV) else (0, vText l)
def quoM (l : List UInt8) : Int × v.V :=
  if (unqF l).2.2 ≠ 0 then ((unqF l).2.2, zV) else if (unqF l).2.1 = l.length then (0, vText (unqF l).1) else (6, zV)
def scM (l : List UInt8) (ins : Nat) : Int × v.V :=
  if l = tNull then (0, zV) else if l = tTrue then (0, vFlag true) else if l = tFalse then (0, vFlag false)
  else if l = [91, 93] then (if 32 ≤ ins then (9, zV) else (0, vList []))
  else if l = [123, 125] then (if 32 ≤ ins then (9, zV) else (0, vKeys []))
  else if l.head? = some 34 then quoM l
  else if onlyB inW l = true then wordM l else (6, zV)
def keyE (n : Ent) (met : List ByteArray) : Int :=
  if n.quoted = false ∧ keyB n.key = false then 6 else if 4096 < n.key.length then 2 else if v.inB (tx n.key) met = true then 8 else 0
abbrev Res := Except (Nat × Int) v.V
def seg (ind : Int) (S : List Rw) : List Rw := S.takeWhile fun r => decide (ind < (r.indent : Int))
def off (ind : Int) (S : List Rw) : List Rw := S.dropWhile fun r => decide (ind < (r.indent : Int))
theorem seg_len (ind : Int) (S : List Rw) : (seg ind S).length ≤ S.length := (List.takeWhile_prefix _).length_le
theorem off_len (ind : Int) (S : List Rw) : (off ind S).length ≤ S.length := (List.dropWhile_suffix _).length_le
mutual
def blk (S : List Rw) (ins : Nat) : Res := match S with
  | [] => .ok zV
  | r :: T => if r.dash = true then (if 32 ≤ ins then .error (r.line, 9) else items r.indent ins (r :: T) [])
    else if (entM r.text).1 ≠ 0 then .error (r.line, (entM r.text).1)
    else if (entM r.text).2.isSome = true then (if 32 ≤ ins then .error (r.line, 9) else pairs r.indent ins (r :: T) [])
    else if (scM r.text ins).1 ≠ 0 then .error (r.line, (scM r.text ins).1)
    else match T with
      | [] => .ok (scM r.text ins).2
      | r2 :: _ => .error (r2.line, 6)
termination_by 2 * S.length + 1
def items (ind ins : Nat) (S : List Rw) (acc : List v.V) : Res := match S with
  | [] => .ok (vList acc)
  | r :: T => if r.indent ≠ ind ∨ r.dash = false then .error (r.line, 6) else match blk (seg ind T) (ins + 1) with
    | .error e => .error e
    | .ok x => items ind ins (off ind T) (acc ++ [x])
termination_by 2 * S.length
decreasing_by
  · have := seg_len ind T; simp only [List.length_cons]; omega
  · have := off_len ind T; simp only [List.length_cons]; omega
def pairs (ind ins : Nat) (S : List Rw) (acc : List (ByteArray × v.V)) : Res := match S with
  | [] => .ok (vKeys acc)
  | r :: T => if r.indent ≠ ind ∨ r.dash = true then .error (r.line, 6)
    else if (entM r.text).1 ≠ 0 then .error (r.line, (entM r.text).1)
    else match (entM r.text).2 with
      | none => .error (r.line, 6)
      | some n => if keyE n (acc.map (·.1)) ≠ 0 then .error (r.line, keyE n (acc.map (·.1)))
        else if n.behind = [] then (match blk (seg ind T) (ins + 1) with
          | .error e => .error e
          | .ok x => pairs ind ins (off ind T) (acc ++ [(tx n.key, x)]))
        else if (scM n.behind (ins + 1)).1 ≠ 0 then .error (r.line, (scM n.behind (ins + 1)).1)
        else pairs ind ins T (acc ++ [(tx n.key, (scM n.behind (ins + 1)).2)])
termination_by 2 * S.length
decreasing_by
  · have := seg_len ind T; simp only [List.length_cons]; omega
  · have := off_len ind T; simp only [List.length_cons]; omega
  · simp only [List.length_cons]; omega
end
def parseR (S : List Rw) : v.V × Nat × Int :=
  if (match S with | [] => false | r :: _ => decide (0 < r.indent)) = true then (zV, (S.head?.map Rw.line).getD 0, 6)
  else match blk S 0 with
    | .ok x => (x, 0, 0)
    | .error e => (zV, e.1, e.2)
def parseM (l : List UInt8) : v.V × Nat × Int :=
  if (cutL Lib.validD l).2.2 ≠ 0 then (zV, (cutL Lib.validD l).2.1, (cutL Lib.validD l).2.2) else parseR (cutL Lib.validD l).1
end y
namespace y
open Go.ChangeShapes Go.WideShapes Go.ChangeAt Go.RowKit
attribute [local go_sem ↓] Go.wp_at_zero Go.wp_at_succ
variable {w : World}
theorem isLetter_any (c : UInt8) (w : World) : Calls Tryz.prog 31 #[.int .u8 (c.toNat : Int)] w fun e w' => e = .returned (.bool (letB c)) ∧ w = w' := by
  have hc : c.toNat < 65 ∨ (65 ≤ c.toNat ∧ c.toNat ≤ 90) ∨ (91 ≤ c.toNat ∧ c.toNat < 97) ∨ (97 ≤ c.toNat ∧ c.toNat ≤ 122) ∨ 123 ≤ c.toNat := by omega
  rcases hc with h | h | h | h | h
  · have H : Hid (letB c = false) := by rw [Hid, letB]; exact decide_eq_false (by omega)
    have a0 : ¬ (65 : Int) ≤ (c.toNat : Int) := by omega
    have a1 : ¬ (97 : Int) ≤ (c.toNat : Int) := by omega
    clear h
    go_enter Tryz.func31, Tryz.ntmps31
    go_wp2
    go_ret
    exact ⟨by rw [H.out]; rfl, rfl⟩
  · have H : Hid (letB c = true) := by rw [Hid, letB]; exact decide_eq_true (.inl h)
    have a0 : (65 : Int) ≤ (c.toNat : Int) := by omega
    have a1 : (c.toNat : Int) ≤ 90 := by omega
    clear h
    go_enter Tryz.func31, Tryz.ntmps31
    go_wp2
    go_ret
    exact ⟨by rw [H.out]; rfl, rfl⟩
  · have H : Hid (letB c = false) := by rw [Hid, letB]; exact decide_eq_false (by omega)
    have a0 : (65 : Int) ≤ (c.toNat : Int) := by omega
    have a1 : ¬ (c.toNat : Int) ≤ 90 := by omega
    have a2 : ¬ (97 : Int) ≤ (c.toNat : Int) := by omega
    clear h
    go_enter Tryz.func31, Tryz.ntmps31
    go_wp2
    go_ret
    exact ⟨by rw [H.out]; rfl, rfl⟩
  · have H : Hid (letB c = true) := by rw [Hid, letB]; exact decide_eq_true (.inr h)
    have a0 : (65 : Int) ≤ (c.toNat : Int) := by omega
    have a1 : ¬ (c.toNat : Int) ≤ 90 := by omega
    have a2 : (97 : Int) ≤ (c.toNat : Int) := by omega
    have a3 : (c.toNat : Int) ≤ 122 := by omega
    clear h
    go_enter Tryz.func31, Tryz.ntmps31
    go_wp2
    go_ret
    exact ⟨by rw [H.out]; rfl, rfl⟩
  · have H : Hid (letB c = false) := by rw [Hid, letB]; exact decide_eq_false (by omega)
    have a0 : (65 : Int) ≤ (c.toNat : Int) := by omega
    have a1 : ¬ (c.toNat : Int) ≤ 90 := by omega
    have a2 : (97 : Int) ≤ (c.toNat : Int) := by omega
    have a3 : ¬ (c.toNat : Int) ≤ 122 := by omega
    clear h
    go_enter Tryz.func31, Tryz.ntmps31
    go_wp2
    go_ret
    exact ⟨by rw [H.out]; rfl, rfl⟩
theorem isDigit_any (c : UInt8) (w : World) : Calls Tryz.prog 64 #[.int .u8 (c.toNat : Int)] w fun e w' => e = .returned (.bool (digB c)) ∧ w = w' := by
  by_cases h0 : 48 ≤ c.toNat
  · by_cases h1 : c.toNat ≤ 57
    · have a0 : (48 : Int) ≤ (c.toNat : Int) := by omega
      have a1 : (c.toNat : Int) ≤ 57 := by omega
      have H : Hid (digB c = true) := (digB_iff c).2 ⟨h0, h1⟩
      clear h0 h1
      go_enter Tryz.func64, Tryz.ntmps64
      go_wp2
      go_ret
      exact ⟨by rw [H.out]; rfl, rfl⟩
    · have a0 : (48 : Int) ≤ (c.toNat : Int) := by omega
      have a1 : ¬ (c.toNat : Int) ≤ 57 := by omega
      have H : Hid (digB c = false) := by rw [Hid, digB]; simp; omega
      clear h0 h1
      go_enter Tryz.func64, Tryz.ntmps64
      go_wp2
      go_ret
      exact ⟨by rw [H.out]; rfl, rfl⟩
  · have a0 : ¬ (48 : Int) ≤ (c.toNat : Int) := by omega
    have H : Hid (digB c = false) := by rw [Hid, digB]; simp; omega
    clear h0
    go_enter Tryz.func64, Tryz.ntmps64
    go_wp2
    go_ret
    exact ⟨by rw [H.out]; rfl, rfl⟩
theorem idx_in (o : List UInt8) (c : UInt8) (w : World) (h : o.contains c = true) : ∃ r : Int, 0 ≤ r ∧ Calls Tryz.prog 65 #[.string (tx o), .int .u8 (c.toNat : Int)] w fun e w' => e = .returned (.int .i64 r) ∧ w = w' := by
  have hm : c ∈ o := by simpa using h
  have hc : Int.toNat (c.toNat : Int) = c.toNat := by simp
  rcases indexByte_cases o c with h1 | ⟨k, h1⟩
  · exact absurd rfl (indexByte_none o c h1 c hm)
  · refine ⟨(k : Int), by omega, idx_any (tx o) (c.toNat : Int) (k : Int) w ?_⟩
    rw [tx_toList, hc]
    simpa using h1
theorem idx_out (o : List UInt8) (c : UInt8) (w : World) (h : o.contains c = false) : Calls Tryz.prog 65 #[.string (tx o), .int .u8 (c.toNat : Int)] w fun e w' => e = .returned (.int .i64 (-1)) ∧ w = w' := by
  have hm : c ∉ o := by simpa using h
  refine idx_any (tx o) (c.toNat : Int) (-1) w ?_
  have hc : Int.toNat (c.toNat : Int) = c.toNat := by simp
  rw [tx_toList, hc]
  rcases indexByte_cases o c with h1 | ⟨k, h1⟩
  · simpa using h1
  · obtain ⟨h2, h3, _⟩ := indexByte_some o c k h1
    exact absurd (by rw [h3]; simp) hm
theorem only_step (o l : List UInt8) (k : Nat) (h : k < l.length) : onlyB o (l.drop k) = ((alB l[k] || o.contains l[k]) && onlyB o (l.drop (k + 1))) := by
  unfold onlyB
  rw [List.drop_eq_getElem_cons h, List.all_cons]
theorem hasOnly_any (s : ByteArray) (o : List UInt8) (w : World) (hs : s.size ≤ 1000000) : Calls Tryz.prog 33 #[.string s, .string (tx o)] w fun e w' => e = .returned (.bool (onlyB o s.data.toList)) ∧ w = w' := by
  have HL := Lib.hid (fun c W => isLetter_any c W)
  have HD := Lib.hid (fun c W => isDigit_any c W)
  have HI := Lib.hid (fun c W => idx_in o c W)
  have HO := Lib.hid (fun c W => idx_out o c W)
  have hsz : s.data.toList.length = s.size := Array.length_toList
  have HSZ := Lib.hid hsz
  clear hsz
  generalize tx o = os at *
  go_enter Tryz.func33, Tryz.ntmps33
  go_wp2
  go_loop [8] (fun i => ∃ k : Nat, k ≤ s.size ∧ i = .int .i64 k ∧ Hid (onlyB o s.data.toList = onlyB o (s.data.toList.drop k))) (fun i => s.size - (intOf i).toNat)
  case atStart => exact ⟨0, Nat.zero_le _, rfl, rfl⟩
  case round =>
    obtain ⟨k, hk, rfl, HK⟩ := hrel
    by_cases hlt : k < s.size
    · have HS : Hid (onlyB o (s.data.toList.drop k) = ((alB s[k] || o.contains s[k]) && onlyB o (s.data.toList.drop (k + 1)))) := only_step o s.data.toList k (by rw [HSZ.out]; exact hlt)
      cases h1 : letB s[k]
      · cases h2 : digB s[k]
        · cases h3 : o.contains s[k]
          · have HR : Hid (onlyB o s.data.toList = false) := by rw [Hid, HK.out, HS.out, h3]; simp [alB, h1, h2]
            have HX := Lib.hid (fun W => HO.out s[k] W h3)
            clear h3 HS HK
            go_wp2_with (first | (go_at_call 31; refine (HL.out _ _).mono ?_; rintro e w' ⟨rfl, rfl⟩) | (go_at_call 64; refine (HD.out _ _).mono ?_; rintro e w' ⟨rfl, rfl⟩) | (go_at_call 65; refine (HX.out _).mono ?_; rintro e w' ⟨rfl, rfl⟩))
            go_ret
            exact ⟨by rw [HR.out]; rfl, rfl⟩
          · have HR : Hid (onlyB o s.data.toList = onlyB o (s.data.toList.drop (k + 1))) := by rw [Hid, HK.out, HS.out, h3]; simp
            obtain ⟨r, hr, HX0⟩ := HI.out s[k] w h3
            have HX := Lib.hid HX0
            have hr' : ¬ r < 0 := by omega
            clear h3 HS HK HX0
            go_wp2_with (first | (go_at_call 31; refine (HL.out _ _).mono ?_; rintro e w' ⟨rfl, rfl⟩) | (go_at_call 64; refine (HD.out _ _).mono ?_; rintro e w' ⟨rfl, rfl⟩) | (go_at_call 65; refine HX.out.mono ?_; rintro e w' ⟨rfl, rfl⟩))
            go_round
            case rel => exact ⟨k + 1, by omega, by go_num, HR⟩
            case measure => simp [intOf]; omega
        · have HR : Hid (onlyB o s.data.toList = onlyB o (s.data.toList.drop (k + 1))) := by rw [Hid, HK.out, HS.out]; simp [alB, h2]
          clear HS HK
          go_wp2_with (first | (go_at_call 31; refine (HL.out _ _).mono ?_; rintro e w' ⟨rfl, rfl⟩) | (go_at_call 64; refine (HD.out _ _).mono ?_; rintro e w' ⟨rfl, rfl⟩))
          go_round
          case rel => exact ⟨k + 1, by omega, by go_num, HR⟩
          case measure => simp [intOf]; omega
      · have HR : Hid (onlyB o s.data.toList = onlyB o (s.data.toList.drop (k + 1))) := by rw [Hid, HK.out, HS.out]; simp [alB, h1]
        clear HS HK
        go_wp2_with (go_at_call 31; refine (HL.out _ _).mono ?_; rintro e w' ⟨rfl, rfl⟩)
        go_round
        case rel => exact ⟨k + 1, by omega, by go_num, HR⟩
        case measure => simp [intOf]; omega
    · have HR : Hid (onlyB o s.data.toList = true) := by rw [Hid, HK.out, List.drop_of_length_le (by rw [HSZ.out]; omega)]; rfl
      clear HK
      go_wp2
      go_ret
      exact ⟨by rw [HR.out]; rfl, rfl⟩
end y
end Go.Proofs.YtcljplkkgpjhlaaGreatDoorR
