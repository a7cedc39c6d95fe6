/-
  What dns.Variable and dns.Image return, for every text.
-/
import Derived.Test.YtphjhlnjfcfdcaaSMath
import Derived.Test.YtphjhlnjfcfdcaaDLabel
namespace Go.Proofs.Ytphjhlnjfcfdcaa
open Go.ChangeShapes Go.WideShapes Go.ChangeAt Go.RowKit

set_option maxRecDepth 100000 in
theorem ini_any (c : UInt8) (w : World) : Calls Try.prog 92 #[.int .u8 (c.toNat : Int)] w fun e w' => e = .returned (.bool (inI c)) ∧ w = w' := by
  have Hsmall := Lib.hid (fun W => small_any c W)
  have Hcap := Lib.hid (fun W => cap_any c W)
  have Hdig := Lib.hid (fun W => dig_any c W)
  have HZ : Hid (∀ (d : UInt8) (m : Nat), d.toNat = m → (c == d) = decide (c.toNat = m)) := fun d m hm => by
    subst hm
    rw [Bool.eq_iff_iff]
    simp only [beq_iff_eq, decide_eq_true_eq]
    rw [← UInt8.toNat_inj]
  have HC : Hid (inI c = (smallB c || (capB c || (digB c || (decide (c.toNat = 46) || (decide (c.toNat = 95) || (decide (c.toNat = 45) || (decide (c.toNat = 47) || (decide (c.toNat = 58) || decide (c.toNat = 64))))))))) ) := by
    rw [Hid, inI, HZ.out 46 46 rfl, HZ.out 95 95 rfl, HZ.out 45 45 rfl, HZ.out 47 47 rfl, HZ.out 58 58 rfl, HZ.out 64 64 rfl]
  clear HZ
  generalize smallB c = b0 at *
  generalize capB c = b1 at *
  generalize digB c = b2 at *
  generalize inI c = r at *
  generalize c.toNat = n at *
  by_cases hz : n = 46 ∨ n = 95 ∨ n = 45 ∨ n = 47 ∨ n = 58 ∨ n = 64
  · have HR : Hid (r = true) := by
      rw [Hid, HC.out]
      rcases hz with rfl | rfl | rfl | rfl | rfl | rfl <;> simp
    clear HC Hsmall Hcap Hdig
    rcases hz with rfl | rfl | rfl | rfl | rfl | rfl
    all_goals go_enter Try.func92, Try.ntmps92
    all_goals go_wp2
    all_goals go_ret
    all_goals exact ⟨ret_bool HR.out.symm, rfl⟩
  · have HR : Hid (r = (b0 || (b1 || b2))) := by
      rw [Hid, HC.out, decide_eq_false (show ¬ n = 46 by omega), decide_eq_false (show ¬ n = 95 by omega), decide_eq_false (show ¬ n = 45 by omega), decide_eq_false (show ¬ n = 47 by omega), decide_eq_false (show ¬ n = 58 by omega), decide_eq_false (show ¬ n = 64 by omega)]
      simp
    have e1 : ((n : Int) == 46) = false := by rw [beq_eq_false_iff_ne]; omega
    have e2 : ((n : Int) == 95) = false := by rw [beq_eq_false_iff_ne]; omega
    have e3 : ((n : Int) == 45) = false := by rw [beq_eq_false_iff_ne]; omega
    have e4 : ((n : Int) == 47) = false := by rw [beq_eq_false_iff_ne]; omega
    have e5 : ((n : Int) == 58) = false := by rw [beq_eq_false_iff_ne]; omega
    have e6 : ((n : Int) == 64) = false := by rw [beq_eq_false_iff_ne]; omega
    clear HC hz
    cases b0 <;> cases b1 <;> cases b2
    all_goals go_enter Try.func92, Try.ntmps92
    all_goals go_wp2_with (first | (go_at_call 91; refine (Hsmall.out _).mono ?_; rintro e w' ⟨rfl, rfl⟩) | (go_at_call 99; refine (Hcap.out _).mono ?_; rintro e w' ⟨rfl, rfl⟩) | (go_at_call 88; refine (Hdig.out _).mono ?_; rintro e w' ⟨rfl, rfl⟩))
    all_goals go_ret
    all_goals exact ⟨ret_bool HR.out.symm, rfl⟩
set_option maxRecDepth 100000 in
theorem allI_any (s : ByteArray) (w : World) (hs : s.size ≤ 1000) : Calls Try.prog 85 #[.string s, .func (.func 92) #[] #[]] w fun e w' => e = .returned (.bool (s.data.toList.all inI)) ∧ w = w' := by
  have HP := Lib.hid (fun c W => ini_any c W)
  have HSZ : Hid (s.data.toList.length = s.size) := by rw [Hid]; simp
  go_enter Try.func85, Try.ntmps85
  go_wp2
  go_loopw [8] (fun a8 wr => ∃ (k : Nat), a8 = .int .i64 (k : Int) ∧ k ≤ s.size ∧ w = wr ∧ Hid (∀ c ∈ s.data.toList.take k, inI c = true)) (fun a8 _ => s.size - (intOf a8).toNat)
  case atStart => exact ⟨0, rfl, Nat.zero_le _, rfl, by simp [Hid]⟩
  case round =>
    obtain ⟨k, rfl, hk, rfl, HA⟩ := hrel
    by_cases hlt : k < s.size
    · have HG : Hid (s.data.toList[k]? = some s[k]) := by rw [Hid, List.getElem?_eq_getElem (by rw [HSZ.out]; exact hlt)]; rfl
      have HT := Lib.hid (take_snoc s k hlt)
      have HC := Lib.hid (fun W => HP.out s[k] W)
      cases hp : inI s[k] with
      | false =>
        rw [hp] at HC
        have HR : Hid (s.data.toList.all inI = false) := by
          rw [Hid, Bool.eq_false_iff]
          intro h
          have := List.all_eq_true.1 h s[k] (List.mem_of_getElem? HG.out)
          rw [hp] at this; cases this
        clear hp
        go_wp2_with (go_at_call 92; refine (HC.out _).mono ?_; rintro e w' ⟨rfl, rfl⟩)
        all_goals try (exfalso; omega)
        go_ret
        exact ⟨ret_bool HR.out.symm, rfl⟩
      | true =>
        rw [hp] at HC
        have HN : Hid (∀ c ∈ s.data.toList.take (k + 1), inI c = true) := by
          rw [Hid, HT.out]
          intro c hc
          rcases List.mem_append.1 hc with h | h
          · exact HA.out c h
          · rw [List.mem_singleton.1 h]; exact hp
        clear hp
        go_wp2_with (go_at_call 92; refine (HC.out _).mono ?_; rintro e w' ⟨rfl, rfl⟩)
        all_goals try (exfalso; omega)
        go_roundw
        case rel => exact ⟨k + 1, by simp, by omega, by trivial, HN.out⟩
        case measure => simp [intOf]; omega
    · obtain rfl : k = s.size := by omega
      have HR : Hid (s.data.toList.all inI = true) := by
        rw [Hid, List.all_eq_true]
        intro c hc
        exact HA.out c (by rw [← HSZ.out, List.take_length]; exact hc)
      go_wp2
      all_goals try (exfalso; omega)
      go_ret
      exact ⟨ret_bool HR.out.symm, rfl⟩
set_option maxRecDepth 100000 in
theorem variable_any (s : ByteArray) (w : World) (hs : s.size ≤ maxLen) : Calls Try.prog 64 #[.string s] w fun e w' => e = .returned (.bool (varB s.data.toList)) ∧ w = w' := by
  have HSZ : Hid (s.data.toList.length = s.size) := by rw [Hid]; simp
  have HF := Lib.hid (fun W => fits_any s 63 W hs)
  have HL : Hid (varB s.data.toList = ((decide (1 ≤ s.size) && decide (s.size ≤ 63)) && (!digB (s.data.toList.headD 0) && s.data.toList.all inV))) := by
    rw [Hid, varB, HSZ.out]
  cases hf : (decide (1 ≤ s.size) && decide (s.size ≤ 63)) with
  | false =>
    rw [hf] at HF HL
    clear hf hs
    generalize varB s.data.toList = r at *
    go_enter Try.func64, Try.ntmps64
    go_wp2_with (go_at_call 84; refine (HF.out _).mono ?_; rintro e w' ⟨rfl, rfl⟩)
    go_ret
    exact ⟨ret_bool (by rw [HL.out]; rfl), rfl⟩
  | true =>
    rw [hf] at HF HL
    simp only [Bool.and_eq_true, decide_eq_true_eq] at hf
    obtain ⟨h1, h2⟩ := hf
    have HA := Lib.hid (fun W => allV_any s W (by omega))
    have h0 : 0 < s.size := by omega
    have HH : Hid (s.data.toList.headD 0 = s[0]) := by
      rw [Hid, List.headD_eq_head?_getD, List.head?_eq_getElem?, List.getElem?_eq_getElem (by rw [HSZ.out]; exact h0)]; rfl
    have HL2 : Hid (varB s.data.toList = (!digB (s[0]) && s.data.toList.all inV)) := by
      rw [Hid, HL.out, HH.out]; rfl
    have HD := Lib.hid (fun W => dig_any s[0] W)
    have HS := Lib.hid (fun W => small_any s[0] W)
    clear HL HH hs
    generalize varB s.data.toList = r at *
    generalize s.data.toList.all inV = al at *
    generalize digB s[0] = dg at *
    generalize smallB s[0] = sm at *
    cases al <;> cases dg <;> cases sm
    all_goals go_enter Try.func64, Try.ntmps64
    all_goals go_wp2_with (first | (go_at_call 84; refine (HF.out _).mono ?_; rintro e w' ⟨rfl, rfl⟩) | (go_at_call 85; refine (HA.out _).mono ?_; rintro e w' ⟨rfl, rfl⟩) | (go_at_call 88; refine (HD.out _).mono ?_; rintro e w' ⟨rfl, rfl⟩) | (go_at_call 91; refine (HS.out _).mono ?_; rintro e w' ⟨rfl, rfl⟩))
    all_goals go_ret
    all_goals refine ⟨?_, rfl⟩
    all_goals refine ret_bool ?_
    all_goals rw [HL2.out]
    all_goals rfl
set_option maxRecDepth 100000 in
theorem image_any (s : ByteArray) (w : World) (hs : s.size ≤ maxLen) : Calls Try.prog 74 #[.string s] w fun e w' => e = .returned (.bool (imgB s.data.toList)) ∧ w = w' := by
  have HSZ : Hid (s.data.toList.length = s.size) := by rw [Hid]; simp
  have HF := Lib.hid (fun W => fits_any s 255 W hs)
  have HL : Hid (imgB s.data.toList = ((decide (1 ≤ s.size) && decide (s.size ≤ 255)) && ((smallB (s.data.toList.headD 0) || digB (s.data.toList.headD 0)) && s.data.toList.all inI))) := by
    rw [Hid, imgB, HSZ.out]
  cases hf : (decide (1 ≤ s.size) && decide (s.size ≤ 255)) with
  | false =>
    rw [hf] at HF HL
    clear hf hs
    generalize imgB s.data.toList = r at *
    go_enter Try.func74, Try.ntmps74
    go_wp2_with (go_at_call 84; refine (HF.out _).mono ?_; rintro e w' ⟨rfl, rfl⟩)
    go_ret
    exact ⟨ret_bool (by rw [HL.out]; rfl), rfl⟩
  | true =>
    rw [hf] at HF HL
    simp only [Bool.and_eq_true, decide_eq_true_eq] at hf
    obtain ⟨h1, h2⟩ := hf
    have HA := Lib.hid (fun W => allI_any s W (by omega))
    have h0 : 0 < s.size := by omega
    have HH : Hid (s.data.toList.headD 0 = s[0]) := by
      rw [Hid, List.headD_eq_head?_getD, List.head?_eq_getElem?, List.getElem?_eq_getElem (by rw [HSZ.out]; exact h0)]; rfl
    have HL2 : Hid (imgB s.data.toList = ((smallB (s[0]) || digB (s[0])) && s.data.toList.all inI)) := by
      rw [Hid, HL.out, HH.out]; rfl
    have HD := Lib.hid (fun W => dig_any s[0] W)
    have HS := Lib.hid (fun W => small_any s[0] W)
    clear HL HH hs
    generalize imgB s.data.toList = r at *
    generalize s.data.toList.all inI = al at *
    generalize digB s[0] = dg at *
    generalize smallB s[0] = sm at *
    cases al <;> cases dg <;> cases sm
    all_goals go_enter Try.func74, Try.ntmps74
    all_goals go_wp2_with (first | (go_at_call 84; refine (HF.out _).mono ?_; rintro e w' ⟨rfl, rfl⟩) | (go_at_call 85; refine (HA.out _).mono ?_; rintro e w' ⟨rfl, rfl⟩) | (go_at_call 88; refine (HD.out _).mono ?_; rintro e w' ⟨rfl, rfl⟩) | (go_at_call 91; refine (HS.out _).mono ?_; rintro e w' ⟨rfl, rfl⟩))
    all_goals go_ret
    all_goals refine ⟨?_, rfl⟩
    all_goals refine ret_bool ?_
    all_goals rw [HL2.out]
    all_goals rfl
end Go.Proofs.Ytphjhlnjfcfdcaa
