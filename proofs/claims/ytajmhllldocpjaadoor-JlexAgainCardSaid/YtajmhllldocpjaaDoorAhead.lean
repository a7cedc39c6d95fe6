/-
  Package jlex: bytes that go on.
-/
import Derived.Test.YtajmhllldocpjaaDoorRead
import Derived.Test.YtajmhllldocpjaaDoorNum
namespace Go.Proofs.YtajmhllldocpjaaDoor
open Go.ChangeShapes Go.WideShapes Go.ChangeAt Go.RowKit
attribute [local go_sem ↓] Go.wp_at_zero Go.wp_at_succ
variable {w : World}

def blankB (c : UInt8) : Bool := decide (c.toNat = 32 ∨ c.toNat = 9 ∨ c.toNat = 10 ∨ c.toNat = 13)
def letB (c : UInt8) : Bool := decide ((65 ≤ c.toNat ∧ c.toNat ≤ 90) ∨ (97 ≤ c.toNat ∧ c.toNat ≤ 122))
def startB (c : UInt8) : Bool := decide (c.toNat = 45 ∨ (48 ≤ c.toNat ∧ c.toNat ≤ 57))
def innB (c : UInt8) : Bool := startB c || letB c || decide (c.toNat = 46 ∨ c.toNat = 43)

theorem isDigit_any (c : UInt8) (w : World) : Calls Tryd.prog 14 #[.int .u8 (c.toNat : Int)] w fun e w' => e = .returned (.bool (digB c)) ∧ w = w' := by
  by_cases h0 : 48 ≤ c.toNat
  · by_cases h1 : c.toNat ≤ 57
    · have a0 : (48 : Int) ≤ (c.toNat : Int) := by omega
      have a1 : (c.toNat : Int) ≤ 57 := by omega
      have H : Hid (digB c = true) := (digB_iff c).2 ⟨h0, h1⟩
      clear h0 h1
      go_enter Tryd.func14, Tryd.ntmps14
      go_wp2
      go_ret
      exact ⟨by rw [H.out]; rfl, rfl⟩
    · have a0 : (48 : Int) ≤ (c.toNat : Int) := by omega
      have a1 : ¬ (c.toNat : Int) ≤ 57 := by omega
      have H : Hid (digB c = false) := by rw [Hid, digB]; simp; omega
      clear h0 h1
      go_enter Tryd.func14, Tryd.ntmps14
      go_wp2
      go_ret
      exact ⟨by rw [H.out]; rfl, rfl⟩
  · have a0 : ¬ (48 : Int) ≤ (c.toNat : Int) := by omega
    have H : Hid (digB c = false) := by rw [Hid, digB]; simp; omega
    clear h0
    go_enter Tryd.func14, Tryd.ntmps14
    go_wp2
    go_ret
    exact ⟨by rw [H.out]; rfl, rfl⟩
theorem isBlank_any (c : UInt8) (w : World) : Calls Tryd.prog 18 #[.int .u8 (c.toNat : Int)] w fun e w' => e = .returned (.bool (blankB c)) ∧ w = w' := by
  by_cases h : c.toNat = 32 ∨ c.toNat = 9 ∨ c.toNat = 10 ∨ c.toNat = 13
  · have H : Hid (blankB c = true) := by rw [Hid, blankB]; exact decide_eq_true h
    rcases h with h | h | h | h
    all_goals
      have hi : (c.toNat : Int) = ((c.toNat : Nat) : Int) := rfl
      rw [h]
      clear h hi
      go_enter Tryd.func18, Tryd.ntmps18
      go_wp2
      go_ret
      exact ⟨by rw [H.out]; rfl, rfl⟩
  · have H : Hid (blankB c = false) := by rw [Hid, blankB]; exact decide_eq_false h
    have a0 : ((c.toNat : Int) == 32) = false := by rw [beq_eq_false_iff_ne]; omega
    have a1 : ((c.toNat : Int) == 9) = false := by rw [beq_eq_false_iff_ne]; omega
    have a2 : ((c.toNat : Int) == 10) = false := by rw [beq_eq_false_iff_ne]; omega
    have a3 : ((c.toNat : Int) == 13) = false := by rw [beq_eq_false_iff_ne]; omega
    clear h
    go_enter Tryd.func18, Tryd.ntmps18
    go_wp2
    go_ret
    exact ⟨by rw [H.out]; rfl, rfl⟩
theorem isLetter_any (c : UInt8) (w : World) : Calls Tryd.prog 29 #[.int .u8 (c.toNat : Int)] w fun e w' => e = .returned (.bool (letB c)) ∧ w = w' := by
  have hc : c.toNat < 65 ∨ (65 ≤ c.toNat ∧ c.toNat ≤ 90) ∨ (91 ≤ c.toNat ∧ c.toNat < 97) ∨ (97 ≤ c.toNat ∧ c.toNat ≤ 122) ∨ 123 ≤ c.toNat := by omega
  rcases hc with h | h | h | h | h
  · have H : Hid (letB c = false) := by rw [Hid, letB]; exact decide_eq_false (by omega)
    have a0 : ¬ (65 : Int) ≤ (c.toNat : Int) := by omega
    have a1 : ¬ (97 : Int) ≤ (c.toNat : Int) := by omega
    clear h
    go_enter Tryd.func29, Tryd.ntmps29
    go_wp2
    go_ret
    exact ⟨by rw [H.out]; rfl, rfl⟩
  · have H : Hid (letB c = true) := by rw [Hid, letB]; exact decide_eq_true (.inl h)
    have a0 : (65 : Int) ≤ (c.toNat : Int) := by omega
    have a1 : (c.toNat : Int) ≤ 90 := by omega
    clear h
    go_enter Tryd.func29, Tryd.ntmps29
    go_wp2
    go_ret
    exact ⟨by rw [H.out]; rfl, rfl⟩
  · have H : Hid (letB c = false) := by rw [Hid, letB]; exact decide_eq_false (by omega)
    have a0 : (65 : Int) ≤ (c.toNat : Int) := by omega
    have a1 : ¬ (c.toNat : Int) ≤ 90 := by omega
    have a2 : ¬ (97 : Int) ≤ (c.toNat : Int) := by omega
    clear h
    go_enter Tryd.func29, Tryd.ntmps29
    go_wp2
    go_ret
    exact ⟨by rw [H.out]; rfl, rfl⟩
  · have H : Hid (letB c = true) := by rw [Hid, letB]; exact decide_eq_true (.inr h)
    have a0 : (65 : Int) ≤ (c.toNat : Int) := by omega
    have a1 : ¬ (c.toNat : Int) ≤ 90 := by omega
    have a2 : (97 : Int) ≤ (c.toNat : Int) := by omega
    have a3 : (c.toNat : Int) ≤ 122 := by omega
    clear h
    go_enter Tryd.func29, Tryd.ntmps29
    go_wp2
    go_ret
    exact ⟨by rw [H.out]; rfl, rfl⟩
  · have H : Hid (letB c = false) := by rw [Hid, letB]; exact decide_eq_false (by omega)
    have a0 : (65 : Int) ≤ (c.toNat : Int) := by omega
    have a1 : ¬ (c.toNat : Int) ≤ 90 := by omega
    have a2 : (97 : Int) ≤ (c.toNat : Int) := by omega
    have a3 : ¬ (c.toNat : Int) ≤ 122 := by omega
    clear h
    go_enter Tryd.func29, Tryd.ntmps29
    go_wp2
    go_ret
    exact ⟨by rw [H.out]; rfl, rfl⟩
theorem starts_any (c : UInt8) (w : World) : Calls Tryd.prog 27 #[.int .u8 (c.toNat : Int)] w fun e w' => e = .returned (.bool (startB c)) ∧ w = w' := by
  by_cases h : c.toNat = 45
  · have H : Hid (startB c = true) := by rw [Hid, startB]; exact decide_eq_true (.inl h)
    rw [h]
    clear h
    go_enter Tryd.func27, Tryd.ntmps27
    go_wp2
    go_ret
    exact ⟨by rw [H.out]; rfl, rfl⟩
  · have H : Hid (digB c = startB c) := by rw [Hid, startB, digB]; exact decide_eq_decide.2 (by omega)
    have HD := Lib.hid (fun W => isDigit_any c W)
    rw [H.out] at HD
    have a0 : ((c.toNat : Int) == 45) = false := by rw [beq_eq_false_iff_ne]; omega
    clear h H
    generalize startB c = z at *
    go_enter Tryd.func27, Tryd.ntmps27
    go_wp2_with (go_at_call 14; refine (HD.out _).mono ?_; rintro e w' ⟨rfl, rfl⟩)
    go_ret
    exact ⟨rfl, rfl⟩
theorem inNumber_any (c : UInt8) (w : World) : Calls Tryd.prog 28 #[.int .u8 (c.toNat : Int)] w fun e w' => e = .returned (.bool (innB c)) ∧ w = w' := by
  have HS := Lib.hid (fun W => starts_any c W)
  have HL := Lib.hid (fun W => isLetter_any c W)
  have HE : Hid (innB c = (startB c || letB c || decide (c.toNat = 46 ∨ c.toNat = 43))) := rfl
  cases hs : startB c with
  | true =>
    rw [hs] at HS HE
    have HX : Hid (innB c = true) := by rw [Hid, HE.out]; rfl
    clear hs HE HL
    go_enter Tryd.func28, Tryd.ntmps28
    go_wp2_with (go_at_call 27; refine (HS.out _).mono ?_; rintro e w' ⟨rfl, rfl⟩)
    go_ret
    exact ⟨by rw [HX.out]; rfl, rfl⟩
  | false =>
    rw [hs] at HS HE
    cases hl : letB c with
    | true =>
      rw [hl] at HL HE
      have HX : Hid (innB c = true) := by rw [Hid, HE.out]; rfl
      clear hs hl HE
      go_enter Tryd.func28, Tryd.ntmps28
      go_wp2_with (first | (go_at_call 27; refine (HS.out _).mono ?_; rintro e w' ⟨rfl, rfl⟩) | (go_at_call 29; refine (HL.out _).mono ?_; rintro e w' ⟨rfl, rfl⟩))
      go_ret
      exact ⟨by rw [HX.out]; rfl, rfl⟩
    | false =>
      rw [hl] at HL HE
      by_cases h1 : c.toNat = 46
      · have HX : Hid (innB c = true) := by rw [Hid, HE.out, decide_eq_true (.inl h1)]; rfl
        have a0 : ((c.toNat : Int) == 46) = true := by rw [h1]; rfl
        clear hs hl HE h1
        go_enter Tryd.func28, Tryd.ntmps28
        go_wp2_with (first | (go_at_call 27; refine (HS.out _).mono ?_; rintro e w' ⟨rfl, rfl⟩) | (go_at_call 29; refine (HL.out _).mono ?_; rintro e w' ⟨rfl, rfl⟩))
        go_ret
        exact ⟨by rw [HX.out]; rfl, rfl⟩
      by_cases h2 : c.toNat = 43
      · have HX : Hid (innB c = true) := by rw [Hid, HE.out, decide_eq_true (.inr h2)]; rfl
        have a0 : ((c.toNat : Int) == 46) = false := by rw [beq_eq_false_iff_ne]; omega
        have a1 : ((c.toNat : Int) == 43) = true := by rw [h2]; rfl
        clear hs hl HE h1 h2
        go_enter Tryd.func28, Tryd.ntmps28
        go_wp2_with (first | (go_at_call 27; refine (HS.out _).mono ?_; rintro e w' ⟨rfl, rfl⟩) | (go_at_call 29; refine (HL.out _).mono ?_; rintro e w' ⟨rfl, rfl⟩))
        go_ret
        exact ⟨by rw [HX.out]; rfl, rfl⟩
      · have HX : Hid (innB c = false) := by rw [Hid, HE.out, decide_eq_false (by omega)]; rfl
        have a0 : ((c.toNat : Int) == 46) = false := by rw [beq_eq_false_iff_ne]; omega
        have a1 : ((c.toNat : Int) == 43) = false := by rw [beq_eq_false_iff_ne]; omega
        clear hs hl HE h1 h2
        go_enter Tryd.func28, Tryd.ntmps28
        go_wp2_with (first | (go_at_call 27; refine (HS.out _).mono ?_; rintro e w' ⟨rfl, rfl⟩) | (go_at_call 29; refine (HL.out _).mono ?_; rintro e w' ⟨rfl, rfl⟩))
        go_ret
        exact ⟨by rw [HX.out]; rfl, rfl⟩
theorem cnt_at (p : UInt8 → Bool) (s : ByteArray) (k : Nat) (h : k < s.size) : cnt p (s.data.toList.drop k) = if p s[k] = true then cnt p (s.data.toList.drop (k + 1)) + 1 else 0 := by
  rw [List.drop_eq_getElem_cons (by simpa using h), cnt]
  rfl
set_option maxHeartbeats 400000 in
theorem ahead_blank (s : ByteArray) (w : World) (hs : s.size ≤ 9000000) : Calls Tryd.prog 13 #[.string s, .func (.func 18) #[] #[]] w fun e w' => e = .returned (.int .i64 (cnt blankB s.data.toList)) ∧ w = w' := by
  go_enter Tryd.func13, Tryd.ntmps13
  go_wp2
  go_loop [5, 8] (fun _ i => ∃ k : Nat, k ≤ s.size ∧ i = .int .i64 k ∧ Hid (cnt blankB s.data.toList = k + cnt blankB (s.data.toList.drop k))) (fun _ i => s.size - (intOf i).toNat)
  case atStart => exact ⟨0, Nat.zero_le _, rfl, by rw [Hid]; simp⟩
  case round =>
    obtain ⟨k, hk, rfl, HE⟩ := hrel
    by_cases hlt : k < s.size
    · have HA := Lib.hid (cnt_at blankB s k hlt)
      have HP := Lib.hid (fun W => isBlank_any s[k] W)
      cases hp : blankB s[k] with
      | true =>
        rw [hp, Hid, if_pos rfl] at HA
        have HX : Hid (cnt blankB s.data.toList = (k + 1) + cnt blankB (s.data.toList.drop (k + 1))) := by rw [Hid, HE.out, HA]; omega
        rw [hp] at HP
        clear hp HA
        go_wp2_with (go_at_call 18; refine (HP.out _).mono ?_; rintro e w' ⟨rfl, rfl⟩)
        go_round
        case rel => exact ⟨k + 1, by omega, by go_num, HX.out⟩
        case measure => simp [intOf]; omega
      | false =>
        rw [hp, Hid, if_neg (by simp)] at HA
        have HX : Hid (cnt blankB s.data.toList = k) := by rw [Hid, HE.out, HA]; omega
        rw [hp] at HP
        clear hp HA
        go_wp2_with (go_at_call 18; refine (HP.out _).mono ?_; rintro e w' ⟨rfl, rfl⟩)
        go_ret
        exact ⟨by rw [HX.out]; rfl, rfl⟩
    · obtain rfl : k = s.size := by omega
      have HX : Hid (cnt blankB s.data.toList = s.size) := by rw [Hid, HE.out, List.drop_eq_nil_of_le (by simp)]; simp [cnt]
      clear HE
      go_wp2
      go_ret
      exact ⟨by rw [HX.out]; rfl, rfl⟩
set_option maxHeartbeats 400000 in
theorem ahead_digit (s : ByteArray) (w : World) (hs : s.size ≤ 9000000) : Calls Tryd.prog 13 #[.string s, .func (.func 14) #[] #[]] w fun e w' => e = .returned (.int .i64 (cnt digB s.data.toList)) ∧ w = w' := by
  go_enter Tryd.func13, Tryd.ntmps13
  go_wp2
  go_loop [5, 8] (fun _ i => ∃ k : Nat, k ≤ s.size ∧ i = .int .i64 k ∧ Hid (cnt digB s.data.toList = k + cnt digB (s.data.toList.drop k))) (fun _ i => s.size - (intOf i).toNat)
  case atStart => exact ⟨0, Nat.zero_le _, rfl, by rw [Hid]; simp⟩
  case round =>
    obtain ⟨k, hk, rfl, HE⟩ := hrel
    by_cases hlt : k < s.size
    · have HA := Lib.hid (cnt_at digB s k hlt)
      have HP := Lib.hid (fun W => isDigit_any s[k] W)
      cases hp : digB s[k] with
      | true =>
        rw [hp, Hid, if_pos rfl] at HA
        have HX : Hid (cnt digB s.data.toList = (k + 1) + cnt digB (s.data.toList.drop (k + 1))) := by rw [Hid, HE.out, HA]; omega
        rw [hp] at HP
        clear hp HA
        go_wp2_with (go_at_call 14; refine (HP.out _).mono ?_; rintro e w' ⟨rfl, rfl⟩)
        go_round
        case rel => exact ⟨k + 1, by omega, by go_num, HX.out⟩
        case measure => simp [intOf]; omega
      | false =>
        rw [hp, Hid, if_neg (by simp)] at HA
        have HX : Hid (cnt digB s.data.toList = k) := by rw [Hid, HE.out, HA]; omega
        rw [hp] at HP
        clear hp HA
        go_wp2_with (go_at_call 14; refine (HP.out _).mono ?_; rintro e w' ⟨rfl, rfl⟩)
        go_ret
        exact ⟨by rw [HX.out]; rfl, rfl⟩
    · obtain rfl : k = s.size := by omega
      have HX : Hid (cnt digB s.data.toList = s.size) := by rw [Hid, HE.out, List.drop_eq_nil_of_le (by simp)]; simp [cnt]
      clear HE
      go_wp2
      go_ret
      exact ⟨by rw [HX.out]; rfl, rfl⟩
set_option maxHeartbeats 400000 in
theorem ahead_number (s : ByteArray) (w : World) (hs : s.size ≤ 9000000) : Calls Tryd.prog 13 #[.string s, .func (.func 28) #[] #[]] w fun e w' => e = .returned (.int .i64 (cnt innB s.data.toList)) ∧ w = w' := by
  go_enter Tryd.func13, Tryd.ntmps13
  go_wp2
  go_loop [5, 8] (fun _ i => ∃ k : Nat, k ≤ s.size ∧ i = .int .i64 k ∧ Hid (cnt innB s.data.toList = k + cnt innB (s.data.toList.drop k))) (fun _ i => s.size - (intOf i).toNat)
  case atStart => exact ⟨0, Nat.zero_le _, rfl, by rw [Hid]; simp⟩
  case round =>
    obtain ⟨k, hk, rfl, HE⟩ := hrel
    by_cases hlt : k < s.size
    · have HA := Lib.hid (cnt_at innB s k hlt)
      have HP := Lib.hid (fun W => inNumber_any s[k] W)
      cases hp : innB s[k] with
      | true =>
        rw [hp, Hid, if_pos rfl] at HA
        have HX : Hid (cnt innB s.data.toList = (k + 1) + cnt innB (s.data.toList.drop (k + 1))) := by rw [Hid, HE.out, HA]; omega
        rw [hp] at HP
        clear hp HA
        go_wp2_with (go_at_call 28; refine (HP.out _).mono ?_; rintro e w' ⟨rfl, rfl⟩)
        go_round
        case rel => exact ⟨k + 1, by omega, by go_num, HX.out⟩
        case measure => simp [intOf]; omega
      | false =>
        rw [hp, Hid, if_neg (by simp)] at HA
        have HX : Hid (cnt innB s.data.toList = k) := by rw [Hid, HE.out, HA]; omega
        rw [hp] at HP
        clear hp HA
        go_wp2_with (go_at_call 28; refine (HP.out _).mono ?_; rintro e w' ⟨rfl, rfl⟩)
        go_ret
        exact ⟨by rw [HX.out]; rfl, rfl⟩
    · obtain rfl : k = s.size := by omega
      have HX : Hid (cnt innB s.data.toList = s.size) := by rw [Hid, HE.out, List.drop_eq_nil_of_le (by simp)]; simp [cnt]
      clear HE
      go_wp2
      go_ret
      exact ⟨by rw [HX.out]; rfl, rfl⟩
set_option maxHeartbeats 400000 in
theorem ahead_letter (s : ByteArray) (w : World) (hs : s.size ≤ 9000000) : Calls Tryd.prog 13 #[.string s, .func (.func 29) #[] #[]] w fun e w' => e = .returned (.int .i64 (cnt letB s.data.toList)) ∧ w = w' := by
  go_enter Tryd.func13, Tryd.ntmps13
  go_wp2
  go_loop [5, 8] (fun _ i => ∃ k : Nat, k ≤ s.size ∧ i = .int .i64 k ∧ Hid (cnt letB s.data.toList = k + cnt letB (s.data.toList.drop k))) (fun _ i => s.size - (intOf i).toNat)
  case atStart => exact ⟨0, Nat.zero_le _, rfl, by rw [Hid]; simp⟩
  case round =>
    obtain ⟨k, hk, rfl, HE⟩ := hrel
    by_cases hlt : k < s.size
    · have HA := Lib.hid (cnt_at letB s k hlt)
      have HP := Lib.hid (fun W => isLetter_any s[k] W)
      cases hp : letB s[k] with
      | true =>
        rw [hp, Hid, if_pos rfl] at HA
        have HX : Hid (cnt letB s.data.toList = (k + 1) + cnt letB (s.data.toList.drop (k + 1))) := by rw [Hid, HE.out, HA]; omega
        rw [hp] at HP
        clear hp HA
        go_wp2_with (go_at_call 29; refine (HP.out _).mono ?_; rintro e w' ⟨rfl, rfl⟩)
        go_round
        case rel => exact ⟨k + 1, by omega, by go_num, HX.out⟩
        case measure => simp [intOf]; omega
      | false =>
        rw [hp, Hid, if_neg (by simp)] at HA
        have HX : Hid (cnt letB s.data.toList = k) := by rw [Hid, HE.out, HA]; omega
        rw [hp] at HP
        clear hp HA
        go_wp2_with (go_at_call 29; refine (HP.out _).mono ?_; rintro e w' ⟨rfl, rfl⟩)
        go_ret
        exact ⟨by rw [HX.out]; rfl, rfl⟩
    · obtain rfl : k = s.size := by omega
      have HX : Hid (cnt letB s.data.toList = s.size) := by rw [Hid, HE.out, List.drop_eq_nil_of_le (by simp)]; simp [cnt]
      clear HE
      go_wp2
      go_ret
      exact ⟨by rw [HX.out]; rfl, rfl⟩
end Go.Proofs.YtajmhllldocpjaaDoor
