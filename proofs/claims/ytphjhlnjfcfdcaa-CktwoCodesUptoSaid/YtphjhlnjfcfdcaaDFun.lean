/-
  What dns.Label, dns.Variable and what they call return, for every text.
-/
import Derived.Test.YtphjhlnjfcfdcaaDBase
namespace Go.Proofs.Ytphjhlnjfcfdcaa
open Go.ChangeShapes Go.WideShapes Go.ChangeAt Go.RowKit

theorem small_any (c : UInt8) (w : World) : Calls Try.prog 91 #[.int .u8 (c.toNat : Int)] w fun e w' => e = .returned (.bool (smallB c)) ∧ w = w' := by
  have HC : Hid (smallB c = (decide (97 ≤ c.toNat) && decide (c.toNat ≤ 122))) := rfl
  generalize smallB c = r at *
  generalize c.toNat = n at *
  go_enter Try.func91, Try.ntmps91
  go_wp2
  all_goals go_ret
  all_goals refine ⟨?_, rfl⟩
  all_goals rw [HC.out]
  all_goals refine ret_bool ?_
  all_goals rw [Bool.eq_iff_iff]
  all_goals simp only [Bool.and_eq_true, decide_eq_true_eq, Bool.false_eq_true, false_iff]
  all_goals omega
theorem cap_any (c : UInt8) (w : World) : Calls Try.prog 99 #[.int .u8 (c.toNat : Int)] w fun e w' => e = .returned (.bool (capB c)) ∧ w = w' := by
  have HC : Hid (capB c = (decide (65 ≤ c.toNat) && decide (c.toNat ≤ 90))) := rfl
  generalize capB c = r at *
  generalize c.toNat = n at *
  go_enter Try.func99, Try.ntmps99
  go_wp2
  all_goals go_ret
  all_goals refine ⟨?_, rfl⟩
  all_goals rw [HC.out]
  all_goals refine ret_bool ?_
  all_goals rw [Bool.eq_iff_iff]
  all_goals simp only [Bool.and_eq_true, decide_eq_true_eq, Bool.false_eq_true, false_iff]
  all_goals omega
theorem dig_any (c : UInt8) (w : World) : Calls Try.prog 88 #[.int .u8 (c.toNat : Int)] w fun e w' => e = .returned (.bool (digB c)) ∧ w = w' := by
  have HC : Hid (digB c = (decide (48 ≤ c.toNat) && decide (c.toNat ≤ 57))) := rfl
  generalize digB c = r at *
  generalize c.toNat = n at *
  go_enter Try.func88, Try.ntmps88
  go_wp2
  all_goals go_ret
  all_goals refine ⟨?_, rfl⟩
  all_goals rw [HC.out]
  all_goals refine ret_bool ?_
  all_goals rw [Bool.eq_iff_iff]
  all_goals simp only [Bool.and_eq_true, decide_eq_true_eq, Bool.false_eq_true, false_iff]
  all_goals omega
theorem inl_any (c : UInt8) (w : World) : Calls Try.prog 86 #[.int .u8 (c.toNat : Int)] w fun e w' => e = .returned (.bool (inL c)) ∧ w = w' := by
  have Hsmall := Lib.hid (fun W => small_any c W)
  have Hdig := Lib.hid (fun W => dig_any c W)
  have HC : Hid (inL c = (smallB c || (digB c || c == 45))) := rfl
  have H9 : Hid ((c == 45) = decide (c.toNat = 45)) := by
    rw [Hid, Bool.eq_iff_iff]
    simp only [beq_iff_eq, decide_eq_true_eq]
    rw [← UInt8.toNat_inj]; rfl
  generalize smallB c = b0 at *
  generalize digB c = b1 at *
  generalize (c == 45) = z at *
  generalize inL c = r at *
  generalize c.toNat = n at *
  cases b0 <;> cases b1
  all_goals go_enter Try.func86, Try.ntmps86
  all_goals go_wp2_with (first | (go_at_call 91; refine (Hsmall.out _).mono ?_; rintro e w' ⟨rfl, rfl⟩) | (go_at_call 88; refine (Hdig.out _).mono ?_; rintro e w' ⟨rfl, rfl⟩))
  all_goals go_ret
  all_goals refine ⟨?_, rfl⟩
  all_goals rw [HC.out]
  all_goals refine ret_bool ?_
  all_goals (try rw [H9.out])
  all_goals (try (rw [Bool.eq_iff_iff]; simp))
  all_goals (try omega)
theorem inv_any (c : UInt8) (w : World) : Calls Try.prog 89 #[.int .u8 (c.toNat : Int)] w fun e w' => e = .returned (.bool (inV c)) ∧ w = w' := by
  have Hsmall := Lib.hid (fun W => small_any c W)
  have Hcap := Lib.hid (fun W => cap_any c W)
  have Hdig := Lib.hid (fun W => dig_any c W)
  have HC : Hid (inV c = (smallB c || (capB c || (digB c || c == 95)))) := rfl
  have H9 : Hid ((c == 95) = decide (c.toNat = 95)) := by
    rw [Hid, Bool.eq_iff_iff]
    simp only [beq_iff_eq, decide_eq_true_eq]
    rw [← UInt8.toNat_inj]; rfl
  generalize smallB c = b0 at *
  generalize capB c = b1 at *
  generalize digB c = b2 at *
  generalize (c == 95) = z at *
  generalize inV c = r at *
  generalize c.toNat = n at *
  cases b0 <;> cases b1 <;> cases b2
  all_goals go_enter Try.func89, Try.ntmps89
  all_goals go_wp2_with (first | (go_at_call 91; refine (Hsmall.out _).mono ?_; rintro e w' ⟨rfl, rfl⟩) | (go_at_call 99; refine (Hcap.out _).mono ?_; rintro e w' ⟨rfl, rfl⟩) | (go_at_call 88; refine (Hdig.out _).mono ?_; rintro e w' ⟨rfl, rfl⟩))
  all_goals go_ret
  all_goals refine ⟨?_, rfl⟩
  all_goals rw [HC.out]
  all_goals refine ret_bool ?_
  all_goals (try rw [H9.out])
  all_goals (try (rw [Bool.eq_iff_iff]; simp))
  all_goals (try omega)
theorem fits_any (s : ByteArray) (m : Nat) (w : World) (hs : s.size ≤ maxLen) : Calls Try.prog 84 #[.string s, .int .i64 (m : Int)] w fun e w' => e = .returned (.bool (decide (1 ≤ s.size) && decide (s.size ≤ m))) ∧ w = w' := by
  unfold maxLen at hs
  go_enter Try.func84, Try.ntmps84
  go_wp2
  all_goals go_ret
  all_goals refine ⟨?_, rfl⟩
  all_goals refine ret_bool ?_
  all_goals rw [Bool.eq_iff_iff]
  all_goals simp only [Bool.and_eq_true, decide_eq_true_eq, Bool.false_eq_true, false_iff]
  all_goals omega
set_option maxRecDepth 100000 in
theorem allL_any (s : ByteArray) (w : World) (hs : s.size ≤ 1000) : Calls Try.prog 85 #[.string s, .func (.func 86) #[] #[]] w fun e w' => e = .returned (.bool (s.data.toList.all inL)) ∧ w = w' := by
  have HP := Lib.hid (fun c W => inl_any c W)
  have HSZ : Hid (s.data.toList.length = s.size) := by rw [Hid]; simp
  go_enter Try.func85, Try.ntmps85
  go_wp2
  go_loopw [8] (fun a8 wr => ∃ (k : Nat), a8 = .int .i64 (k : Int) ∧ k ≤ s.size ∧ w = wr ∧ Hid (∀ c ∈ s.data.toList.take k, inL c = true)) (fun a8 _ => s.size - (intOf a8).toNat)
  case atStart => exact ⟨0, rfl, Nat.zero_le _, rfl, by simp [Hid]⟩
  case round =>
    obtain ⟨k, rfl, hk, rfl, HA⟩ := hrel
    by_cases hlt : k < s.size
    · have HG : Hid (s.data.toList[k]? = some s[k]) := by rw [Hid, List.getElem?_eq_getElem (by rw [HSZ.out]; exact hlt)]; rfl
      have HT := Lib.hid (take_snoc s k hlt)
      have HC := Lib.hid (fun W => HP.out s[k] W)
      cases hp : inL s[k] with
      | false =>
        rw [hp] at HC
        have HR : Hid (s.data.toList.all inL = false) := by
          rw [Hid, Bool.eq_false_iff]
          intro h
          have := List.all_eq_true.1 h s[k] (List.mem_of_getElem? HG.out)
          rw [hp] at this; cases this
        clear hp
        go_wp2_with (go_at_call 86; refine (HC.out _).mono ?_; rintro e w' ⟨rfl, rfl⟩)
        all_goals try (exfalso; omega)
        go_ret
        exact ⟨ret_bool HR.out.symm, rfl⟩
      | true =>
        rw [hp] at HC
        have HN : Hid (∀ c ∈ s.data.toList.take (k + 1), inL c = true) := by
          rw [Hid, HT.out]
          intro c hc
          rcases List.mem_append.1 hc with h | h
          · exact HA.out c h
          · rw [List.mem_singleton.1 h]; exact hp
        clear hp
        go_wp2_with (go_at_call 86; refine (HC.out _).mono ?_; rintro e w' ⟨rfl, rfl⟩)
        all_goals try (exfalso; omega)
        go_roundw
        case rel => exact ⟨k + 1, by simp, by omega, by trivial, HN.out⟩
        case measure => simp [intOf]; omega
    · obtain rfl : k = s.size := by omega
      have HR : Hid (s.data.toList.all inL = true) := by
        rw [Hid, List.all_eq_true]
        intro c hc
        exact HA.out c (by rw [← HSZ.out, List.take_length]; exact hc)
      go_wp2
      all_goals try (exfalso; omega)
      go_ret
      exact ⟨ret_bool HR.out.symm, rfl⟩
set_option maxRecDepth 100000 in
theorem allV_any (s : ByteArray) (w : World) (hs : s.size ≤ 1000) : Calls Try.prog 85 #[.string s, .func (.func 89) #[] #[]] w fun e w' => e = .returned (.bool (s.data.toList.all inV)) ∧ w = w' := by
  have HP := Lib.hid (fun c W => inv_any c W)
  have HSZ : Hid (s.data.toList.length = s.size) := by rw [Hid]; simp
  go_enter Try.func85, Try.ntmps85
  go_wp2
  go_loopw [8] (fun a8 wr => ∃ (k : Nat), a8 = .int .i64 (k : Int) ∧ k ≤ s.size ∧ w = wr ∧ Hid (∀ c ∈ s.data.toList.take k, inV c = true)) (fun a8 _ => s.size - (intOf a8).toNat)
  case atStart => exact ⟨0, rfl, Nat.zero_le _, rfl, by simp [Hid]⟩
  case round =>
    obtain ⟨k, rfl, hk, rfl, HA⟩ := hrel
    by_cases hlt : k < s.size
    · have HG : Hid (s.data.toList[k]? = some s[k]) := by rw [Hid, List.getElem?_eq_getElem (by rw [HSZ.out]; exact hlt)]; rfl
      have HT := Lib.hid (take_snoc s k hlt)
      have HC := Lib.hid (fun W => HP.out s[k] W)
      cases hp : inV s[k] with
      | false =>
        rw [hp] at HC
        have HR : Hid (s.data.toList.all inV = false) := by
          rw [Hid, Bool.eq_false_iff]
          intro h
          have := List.all_eq_true.1 h s[k] (List.mem_of_getElem? HG.out)
          rw [hp] at this; cases this
        clear hp
        go_wp2_with (go_at_call 89; refine (HC.out _).mono ?_; rintro e w' ⟨rfl, rfl⟩)
        all_goals try (exfalso; omega)
        go_ret
        exact ⟨ret_bool HR.out.symm, rfl⟩
      | true =>
        rw [hp] at HC
        have HN : Hid (∀ c ∈ s.data.toList.take (k + 1), inV c = true) := by
          rw [Hid, HT.out]
          intro c hc
          rcases List.mem_append.1 hc with h | h
          · exact HA.out c h
          · rw [List.mem_singleton.1 h]; exact hp
        clear hp
        go_wp2_with (go_at_call 89; refine (HC.out _).mono ?_; rintro e w' ⟨rfl, rfl⟩)
        all_goals try (exfalso; omega)
        go_roundw
        case rel => exact ⟨k + 1, by simp, by omega, by trivial, HN.out⟩
        case measure => simp [intOf]; omega
    · obtain rfl : k = s.size := by omega
      have HR : Hid (s.data.toList.all inV = true) := by
        rw [Hid, List.all_eq_true]
        intro c hc
        exact HA.out c (by rw [← HSZ.out, List.take_length]; exact hc)
      go_wp2
      all_goals try (exfalso; omega)
      go_ret
      exact ⟨ret_bool HR.out.symm, rfl⟩
end Go.Proofs.Ytphjhlnjfcfdcaa
