/-
  What dns.Label, dns.Variable and what they call return, for every text.
  What dns.Label returns, for every text; dns.Variable, for every short text.
  What dns.Variable and dns.Image return, for every text.
  What is wrong with variables.
  How great a pod is.
  Pods that are small enough to be looked at.
  What is wrong with a container, by package spec.
-/
import Derived.Test.YtfhhmajkacjbgaaDoorDck01
import Derived.Test.YtfhhmajkacjbgaaDoorDck05
import Derived.RegionTactic
import Derived.Deep.RegionHeld3
namespace Go.Proofs.YtfhhmajkacjbgaaDoor
open Go.ChangeShapes Go.WideShapes Go.ChangeAt Go.RowKit

theorem small_any (c : UInt8) (w : World) : Calls Tryd.prog 76 #[.int .u8 (c.toNat : Int)] w fun e w' => e = .returned (.bool (smallB c)) ∧ w = w' := by
  have HC : Hid (smallB c = (decide (97 ≤ c.toNat) && decide (c.toNat ≤ 122))) := rfl
  generalize smallB c = r at *
  generalize c.toNat = n at *
  go_enter Tryd.func76, Tryd.ntmps76
  go_wp2
  all_goals go_ret
  all_goals refine ⟨?_, rfl⟩
  all_goals rw [HC.out]
  all_goals refine ret_bool ?_
  all_goals rw [Bool.eq_iff_iff]
  all_goals simp only [Bool.and_eq_true, decide_eq_true_eq, Bool.false_eq_true, false_iff]
  all_goals omega
theorem cap_any (c : UInt8) (w : World) : Calls Tryd.prog 87 #[.int .u8 (c.toNat : Int)] w fun e w' => e = .returned (.bool (capB c)) ∧ w = w' := by
  have HC : Hid (capB c = (decide (65 ≤ c.toNat) && decide (c.toNat ≤ 90))) := rfl
  generalize capB c = r at *
  generalize c.toNat = n at *
  go_enter Tryd.func87, Tryd.ntmps87
  go_wp2
  all_goals go_ret
  all_goals refine ⟨?_, rfl⟩
  all_goals rw [HC.out]
  all_goals refine ret_bool ?_
  all_goals rw [Bool.eq_iff_iff]
  all_goals simp only [Bool.and_eq_true, decide_eq_true_eq, Bool.false_eq_true, false_iff]
  all_goals omega
theorem dig_any (c : UInt8) (w : World) : Calls Tryd.prog 72 #[.int .u8 (c.toNat : Int)] w fun e w' => e = .returned (.bool (digB c)) ∧ w = w' := by
  have HC : Hid (digB c = (decide (48 ≤ c.toNat) && decide (c.toNat ≤ 57))) := rfl
  generalize digB c = r at *
  generalize c.toNat = n at *
  go_enter Tryd.func72, Tryd.ntmps72
  go_wp2
  all_goals go_ret
  all_goals refine ⟨?_, rfl⟩
  all_goals rw [HC.out]
  all_goals refine ret_bool ?_
  all_goals rw [Bool.eq_iff_iff]
  all_goals simp only [Bool.and_eq_true, decide_eq_true_eq, Bool.false_eq_true, false_iff]
  all_goals omega
theorem inl_any (c : UInt8) (w : World) : Calls Tryd.prog 49 #[.int .u8 (c.toNat : Int)] w fun e w' => e = .returned (.bool (inL c)) ∧ w = w' := by
  have Hsmall := Lib.hid (fun W => small_any c W)
  have Hdig := Lib.hid (fun W => dig_any c W)
  have HC : Hid (inL c = (smallB c || (digB c || c == 45))) := rfl
  have H9 : Hid ((c == 45) = decide (c.toNat = 45)) := by
    rw [Hid, Bool.eq_iff_iff]
    simp only [beq_iff_eq, decide_eq_true_eq]
    rw [← UInt8.toNat_inj]; rfl
  generalize smallB c = b0 at *
  generalize digB c = b1 at *
  generalize (c == 45) = z at *
  generalize inL c = r at *
  generalize c.toNat = n at *
  cases b0 <;> cases b1
  all_goals go_enter Tryd.func49, Tryd.ntmps49
  all_goals go_wp2_with (first | (go_at_call 76; refine (Hsmall.out _).mono ?_; rintro e w' ⟨rfl, rfl⟩) | (go_at_call 72; refine (Hdig.out _).mono ?_; rintro e w' ⟨rfl, rfl⟩))
  all_goals go_ret
  all_goals refine ⟨?_, rfl⟩
  all_goals rw [HC.out]
  all_goals refine ret_bool ?_
  all_goals (try rw [H9.out])
  all_goals (try (rw [Bool.eq_iff_iff]; simp))
  all_goals (try omega)
theorem inv_any (c : UInt8) (w : World) : Calls Tryd.prog 73 #[.int .u8 (c.toNat : Int)] w fun e w' => e = .returned (.bool (inV c)) ∧ w = w' := by
  have Hsmall := Lib.hid (fun W => small_any c W)
  have Hcap := Lib.hid (fun W => cap_any c W)
  have Hdig := Lib.hid (fun W => dig_any c W)
  have HC : Hid (inV c = (smallB c || (capB c || (digB c || c == 95)))) := rfl
  have H9 : Hid ((c == 95) = decide (c.toNat = 95)) := by
    rw [Hid, Bool.eq_iff_iff]
    simp only [beq_iff_eq, decide_eq_true_eq]
    rw [← UInt8.toNat_inj]; rfl
  generalize smallB c = b0 at *
  generalize capB c = b1 at *
  generalize digB c = b2 at *
  generalize (c == 95) = z at *
  generalize inV c = r at *
  generalize c.toNat = n at *
  cases b0 <;> cases b1 <;> cases b2
  all_goals go_enter Tryd.func73, Tryd.ntmps73
  all_goals go_wp2_with (first | (go_at_call 76; refine (Hsmall.out _).mono ?_; rintro e w' ⟨rfl, rfl⟩) | (go_at_call 87; refine (Hcap.out _).mono ?_; rintro e w' ⟨rfl, rfl⟩) | (go_at_call 72; refine (Hdig.out _).mono ?_; rintro e w' ⟨rfl, rfl⟩))
  all_goals go_ret
  all_goals refine ⟨?_, rfl⟩
  all_goals rw [HC.out]
  all_goals refine ret_bool ?_
  all_goals (try rw [H9.out])
  all_goals (try (rw [Bool.eq_iff_iff]; simp))
  all_goals (try omega)
theorem fits_any (s : ByteArray) (m : Nat) (w : World) (hs : s.size ≤ maxLen) : Calls Tryd.prog 46 #[.string s, .int .i64 (m : Int)] w fun e w' => e = .returned (.bool (decide (1 ≤ s.size) && decide (s.size ≤ m))) ∧ w = w' := by
  unfold maxLen at hs
  go_enter Tryd.func46, Tryd.ntmps46
  go_wp2
  all_goals go_ret
  all_goals refine ⟨?_, rfl⟩
  all_goals refine ret_bool ?_
  all_goals rw [Bool.eq_iff_iff]
  all_goals simp only [Bool.and_eq_true, decide_eq_true_eq, Bool.false_eq_true, false_iff]
  all_goals omega
set_option maxRecDepth 100000 in
theorem allL_any (s : ByteArray) (w : World) (hs : s.size ≤ 1000) : Calls Tryd.prog 48 #[.string s, .func (.func 49) #[] #[]] w fun e w' => e = .returned (.bool (s.data.toList.all inL)) ∧ w = w' := by
  have HP := Lib.hid (fun c W => inl_any c W)
  have HSZ : Hid (s.data.toList.length = s.size) := by rw [Hid]; simp
  go_enter Tryd.func48, Tryd.ntmps48
  go_wp2
  go_loopw [8] (fun a8 wr => ∃ (k : Nat), a8 = .int .i64 (k : Int) ∧ k ≤ s.size ∧ w = wr ∧ Hid (∀ c ∈ s.data.toList.take k, inL c = true)) (fun a8 _ => s.size - (intOf a8).toNat)
  case atStart => exact ⟨0, rfl, Nat.zero_le _, rfl, by simp [Hid]⟩
  case round =>
    obtain ⟨k, rfl, hk, rfl, HA⟩ := hrel
    by_cases hlt : k < s.size
    · have HG : Hid (s.data.toList[k]? = some s[k]) := by rw [Hid, List.getElem?_eq_getElem (by rw [HSZ.out]; exact hlt)]; rfl
      have HT := Lib.hid (take_snoc s k hlt)
      have HC := Lib.hid (fun W => HP.out s[k] W)
      cases hp : inL s[k] with
      | false =>
        rw [hp] at HC
        have HR : Hid (s.data.toList.all inL = false) := by
          rw [Hid, Bool.eq_false_iff]
          intro h
          have := List.all_eq_true.1 h s[k] (List.mem_of_getElem? HG.out)
          rw [hp] at this; cases this
        clear hp
        go_wp2_with (go_at_call 49; refine (HC.out _).mono ?_; rintro e w' ⟨rfl, rfl⟩)
        all_goals try (exfalso; omega)
        go_ret
        exact ⟨ret_bool HR.out.symm, rfl⟩
      | true =>
        rw [hp] at HC
        have HN : Hid (∀ c ∈ s.data.toList.take (k + 1), inL c = true) := by
          rw [Hid, HT.out]
          intro c hc
          rcases List.mem_append.1 hc with h | h
          · exact HA.out c h
          · rw [List.mem_singleton.1 h]; exact hp
        clear hp
        go_wp2_with (go_at_call 49; refine (HC.out _).mono ?_; rintro e w' ⟨rfl, rfl⟩)
        all_goals try (exfalso; omega)
        go_roundw
        case rel => exact ⟨k + 1, by simp, by omega, by trivial, HN.out⟩
        case measure => simp [intOf]; omega
    · obtain rfl : k = s.size := by omega
      have HR : Hid (s.data.toList.all inL = true) := by
        rw [Hid, List.all_eq_true]
        intro c hc
        exact HA.out c (by rw [← HSZ.out, List.take_length]; exact hc)
      go_wp2
      all_goals try (exfalso; omega)
      go_ret
      exact ⟨ret_bool HR.out.symm, rfl⟩
set_option maxRecDepth 100000 in
theorem allV_any (s : ByteArray) (w : World) (hs : s.size ≤ 1000) : Calls Tryd.prog 48 #[.string s, .func (.func 73) #[] #[]] w fun e w' => e = .returned (.bool (s.data.toList.all inV)) ∧ w = w' := by
  have HP := Lib.hid (fun c W => inv_any c W)
  have HSZ : Hid (s.data.toList.length = s.size) := by rw [Hid]; simp
  go_enter Tryd.func48, Tryd.ntmps48
  go_wp2
  go_loopw [8] (fun a8 wr => ∃ (k : Nat), a8 = .int .i64 (k : Int) ∧ k ≤ s.size ∧ w = wr ∧ Hid (∀ c ∈ s.data.toList.take k, inV c = true)) (fun a8 _ => s.size - (intOf a8).toNat)
  case atStart => exact ⟨0, rfl, Nat.zero_le _, rfl, by simp [Hid]⟩
  case round =>
    obtain ⟨k, rfl, hk, rfl, HA⟩ := hrel
    by_cases hlt : k < s.size
    · have HG : Hid (s.data.toList[k]? = some s[k]) := by rw [Hid, List.getElem?_eq_getElem (by rw [HSZ.out]; exact hlt)]; rfl
      have HT := Lib.hid (take_snoc s k hlt)
      have HC := Lib.hid (fun W => HP.out s[k] W)
      cases hp : inV s[k] with
      | false =>
        rw [hp] at HC
        have HR : Hid (s.data.toList.all inV = false) := by
          rw [Hid, Bool.eq_false_iff]
          intro h
          have := List.all_eq_true.1 h s[k] (List.mem_of_getElem? HG.out)
          rw [hp] at this; cases this
        clear hp
        go_wp2_with (go_at_call 73; refine (HC.out _).mono ?_; rintro e w' ⟨rfl, rfl⟩)
        all_goals try (exfalso; omega)
        go_ret
        exact ⟨ret_bool HR.out.symm, rfl⟩
      | true =>
        rw [hp] at HC
        have HN : Hid (∀ c ∈ s.data.toList.take (k + 1), inV c = true) := by
          rw [Hid, HT.out]
          intro c hc
          rcases List.mem_append.1 hc with h | h
          · exact HA.out c h
          · rw [List.mem_singleton.1 h]; exact hp
        clear hp
        go_wp2_with (go_at_call 73; refine (HC.out _).mono ?_; rintro e w' ⟨rfl, rfl⟩)
        all_goals try (exfalso; omega)
        go_roundw
        case rel => exact ⟨k + 1, by simp, by omega, by trivial, HN.out⟩
        case measure => simp [intOf]; omega
    · obtain rfl : k = s.size := by omega
      have HR : Hid (s.data.toList.all inV = true) := by
        rw [Hid, List.all_eq_true]
        intro c hc
        exact HA.out c (by rw [← HSZ.out, List.take_length]; exact hc)
      go_wp2
      all_goals try (exfalso; omega)
      go_ret
      exact ⟨ret_bool HR.out.symm, rfl⟩
end Go.Proofs.YtfhhmajkacjbgaaDoor
namespace Go.Proofs.YtfhhmajkacjbgaaDoor
open Go.ChangeShapes Go.WideShapes Go.ChangeAt Go.RowKit

set_option maxRecDepth 100000 in
theorem label_any (s : ByteArray) (w : World) (hs : s.size ≤ maxLen) : Calls Tryd.prog 28 #[.string s] w fun e w' => e = .returned (.bool (labB s.data.toList)) ∧ w = w' := by
  have HSZ : Hid (s.data.toList.length = s.size) := by rw [Hid]; simp
  have HF := Lib.hid (fun W => fits_any s 63 W hs)
  have HL : Hid (labB s.data.toList = ((decide (1 ≤ s.size) && decide (s.size ≤ 63)) && (s.data.toList.head? != some 45 && (s.data.toList.getLast? != some 45 && s.data.toList.all inL)))) := by
    rw [Hid, labB, HSZ.out]
  cases hf : (decide (1 ≤ s.size) && decide (s.size ≤ 63)) with
  | false =>
    rw [hf] at HF HL
    clear hf hs
    generalize labB s.data.toList = r at *
    go_enter Tryd.func28, Tryd.ntmps28
    go_wp2_with (go_at_call 46; refine (HF.out _).mono ?_; rintro e w' ⟨rfl, rfl⟩)
    go_ret
    exact ⟨ret_bool (by rw [HL.out]; rfl), rfl⟩
  | true =>
    rw [hf] at HF HL
    simp only [Bool.and_eq_true, decide_eq_true_eq] at hf
    obtain ⟨h1, h2⟩ := hf
    have HA := Lib.hid (fun W => allL_any s W (by omega))
    have hlast : s.size - 1 < s.size := by omega
    have h0 : 0 < s.size := by omega
    have HH : Hid (s.data.toList.head? = some s[0]) := by
      rw [Hid, List.head?_eq_getElem?, List.getElem?_eq_getElem (by rw [HSZ.out]; exact h0)]; rfl
    have HE : Hid (s.data.toList.getLast? = some s[s.size - 1]) := by
      rw [Hid, List.getLast?_eq_getElem?, HSZ.out, List.getElem?_eq_getElem (by rw [HSZ.out]; exact hlast)]; rfl
    have e1 : ((s.size : Int) - 1) = ((s.size - 1 : Nat) : Int) := by omega
    have HL2 : Hid (labB s.data.toList = (some s[0] != some 45 && (some s[s.size - 1] != some 45 && s.data.toList.all inL))) := by
      rw [Hid, HL.out, HH.out, HE.out]; rfl
    have key : ∀ c : UInt8, (some c != some (45 : UInt8)) = decide (¬ ((c.toNat : Int) = 45)) := fun c => by
      rw [Bool.eq_iff_iff]
      simp only [bne_iff_ne, ne_eq, Option.some.injEq, decide_eq_true_eq, ← UInt8.toNat_inj]
      show ¬ c.toNat = 45 ↔ _
      omega
    have B0 := Lib.hid (key s[0])
    have B1 := Lib.hid (key s[s.size - 1])
    clear HL HH HE hs key
    generalize labB s.data.toList = r at *
    generalize s.data.toList.all inL = al at *
    go_enter Tryd.func28, Tryd.ntmps28
    go_wp2_with (first | (go_at_call 46; refine (HF.out _).mono ?_; rintro e w' ⟨rfl, rfl⟩) | (go_at_call 48; refine (HA.out _).mono ?_; rintro e w' ⟨rfl, rfl⟩))
    all_goals go_ret
    all_goals refine ⟨?_, rfl⟩
    all_goals refine ret_bool ?_
    all_goals rw [HL2.out, B0.out, B1.out]
    all_goals simp [*]
set_option maxRecDepth 100000 in
theorem var_any (w : World) : Calls Tryd.prog 45 #[.string ⟨#[95, 88]⟩] w fun e w' => e = .returned (.bool true) ∧ w = w' := by
  have HF : Hid (∀ W, Calls Tryd.prog 46 #[.string ⟨#[95, 88]⟩, .int .i64 63] W fun e w' => e = .returned (.bool true) ∧ W = w') := fun W => fits_any ⟨#[95, 88]⟩ 63 W (by decide)
  have HD : Hid (∀ W, Calls Tryd.prog 72 #[.int .u8 95] W fun e w' => e = .returned (.bool false) ∧ W = w') := fun W => dig_any 95 W
  have HA : Hid (∀ W, Calls Tryd.prog 48 #[.string ⟨#[95, 88]⟩, .func (.func 73) #[] #[]] W fun e w' => e = .returned (.bool true) ∧ W = w') := fun W => allV_any ⟨#[95, 88]⟩ W (by decide)
  go_enter Tryd.func45, Tryd.ntmps45
  go_wp2_with (first | (go_at_call 46; refine (HF.out _).mono ?_; rintro e w' ⟨rfl, rfl⟩) | (go_at_call 72; refine (HD.out _).mono ?_; rintro e w' ⟨rfl, rfl⟩) | (go_at_call 48; refine (HA.out _).mono ?_; rintro e w' ⟨rfl, rfl⟩))
  go_ret
  exact ⟨rfl, rfl⟩
end Go.Proofs.YtfhhmajkacjbgaaDoor
namespace Go.Proofs.YtfhhmajkacjbgaaDoor
open Go.ChangeShapes Go.WideShapes Go.ChangeAt Go.RowKit

set_option maxRecDepth 100000 in
theorem ini_any (c : UInt8) (w : World) : Calls Tryd.prog 77 #[.int .u8 (c.toNat : Int)] w fun e w' => e = .returned (.bool (inI c)) ∧ w = w' := by
  have Hsmall := Lib.hid (fun W => small_any c W)
  have Hcap := Lib.hid (fun W => cap_any c W)
  have Hdig := Lib.hid (fun W => dig_any c W)
  have HZ : Hid (∀ (d : UInt8) (m : Nat), d.toNat = m → (c == d) = decide (c.toNat = m)) := fun d m hm => by
    subst hm
    rw [Bool.eq_iff_iff]
    simp only [beq_iff_eq, decide_eq_true_eq]
    rw [← UInt8.toNat_inj]
  have HC : Hid (inI c = (smallB c || (capB c || (digB c || (decide (c.toNat = 46) || (decide (c.toNat = 95) || (decide (c.toNat = 45) || (decide (c.toNat = 47) || (decide (c.toNat = 58) || decide (c.toNat = 64))))))))) ) := by
    rw [Hid, inI, HZ.out 46 46 rfl, HZ.out 95 95 rfl, HZ.out 45 45 rfl, HZ.out 47 47 rfl, HZ.out 58 58 rfl, HZ.out 64 64 rfl]
  clear HZ
  generalize smallB c = b0 at *
  generalize capB c = b1 at *
  generalize digB c = b2 at *
  generalize inI c = r at *
  generalize c.toNat = n at *
  by_cases hz : n = 46 ∨ n = 95 ∨ n = 45 ∨ n = 47 ∨ n = 58 ∨ n = 64
  · have HR : Hid (r = true) := by
      rw [Hid, HC.out]
      rcases hz with rfl | rfl | rfl | rfl | rfl | rfl <;> simp
    clear HC Hsmall Hcap Hdig
    rcases hz with rfl | rfl | rfl | rfl | rfl | rfl
    all_goals go_enter Tryd.func77, Tryd.ntmps77
    all_goals go_wp2
    all_goals go_ret
    all_goals exact ⟨ret_bool HR.out.symm, rfl⟩
  · have HR : Hid (r = (b0 || (b1 || b2))) := by
      rw [Hid, HC.out, decide_eq_false (show ¬ n = 46 by omega), decide_eq_false (show ¬ n = 95 by omega), decide_eq_false (show ¬ n = 45 by omega), decide_eq_false (show ¬ n = 47 by omega), decide_eq_false (show ¬ n = 58 by omega), decide_eq_false (show ¬ n = 64 by omega)]
      simp
    have e1 : ((n : Int) == 46) = false := by rw [beq_eq_false_iff_ne]; omega
    have e2 : ((n : Int) == 95) = false := by rw [beq_eq_false_iff_ne]; omega
    have e3 : ((n : Int) == 45) = false := by rw [beq_eq_false_iff_ne]; omega
    have e4 : ((n : Int) == 47) = false := by rw [beq_eq_false_iff_ne]; omega
    have e5 : ((n : Int) == 58) = false := by rw [beq_eq_false_iff_ne]; omega
    have e6 : ((n : Int) == 64) = false := by rw [beq_eq_false_iff_ne]; omega
    clear HC hz
    cases b0 <;> cases b1 <;> cases b2
    all_goals go_enter Tryd.func77, Tryd.ntmps77
    all_goals go_wp2_with (first | (go_at_call 76; refine (Hsmall.out _).mono ?_; rintro e w' ⟨rfl, rfl⟩) | (go_at_call 87; refine (Hcap.out _).mono ?_; rintro e w' ⟨rfl, rfl⟩) | (go_at_call 72; refine (Hdig.out _).mono ?_; rintro e w' ⟨rfl, rfl⟩))
    all_goals go_ret
    all_goals exact ⟨ret_bool HR.out.symm, rfl⟩
set_option maxRecDepth 100000 in
theorem allI_any (s : ByteArray) (w : World) (hs : s.size ≤ 1000) : Calls Tryd.prog 48 #[.string s, .func (.func 77) #[] #[]] w fun e w' => e = .returned (.bool (s.data.toList.all inI)) ∧ w = w' := by
  have HP := Lib.hid (fun c W => ini_any c W)
  have HSZ : Hid (s.data.toList.length = s.size) := by rw [Hid]; simp
  go_enter Tryd.func48, Tryd.ntmps48
  go_wp2
  go_loopw [8] (fun a8 wr => ∃ (k : Nat), a8 = .int .i64 (k : Int) ∧ k ≤ s.size ∧ w = wr ∧ Hid (∀ c ∈ s.data.toList.take k, inI c = true)) (fun a8 _ => s.size - (intOf a8).toNat)
  case atStart => exact ⟨0, rfl, Nat.zero_le _, rfl, by simp [Hid]⟩
  case round =>
    obtain ⟨k, rfl, hk, rfl, HA⟩ := hrel
    by_cases hlt : k < s.size
    · have HG : Hid (s.data.toList[k]? = some s[k]) := by rw [Hid, List.getElem?_eq_getElem (by rw [HSZ.out]; exact hlt)]; rfl
      have HT := Lib.hid (take_snoc s k hlt)
      have HC := Lib.hid (fun W => HP.out s[k] W)
      cases hp : inI s[k] with
      | false =>
        rw [hp] at HC
        have HR : Hid (s.data.toList.all inI = false) := by
          rw [Hid, Bool.eq_false_iff]
          intro h
          have := List.all_eq_true.1 h s[k] (List.mem_of_getElem? HG.out)
          rw [hp] at this; cases this
        clear hp
        go_wp2_with (go_at_call 77; refine (HC.out _).mono ?_; rintro e w' ⟨rfl, rfl⟩)
        all_goals try (exfalso; omega)
        go_ret
        exact ⟨ret_bool HR.out.symm, rfl⟩
      | true =>
        rw [hp] at HC
        have HN : Hid (∀ c ∈ s.data.toList.take (k + 1), inI c = true) := by
          rw [Hid, HT.out]
          intro c hc
          rcases List.mem_append.1 hc with h | h
          · exact HA.out c h
          · rw [List.mem_singleton.1 h]; exact hp
        clear hp
        go_wp2_with (go_at_call 77; refine (HC.out _).mono ?_; rintro e w' ⟨rfl, rfl⟩)
        all_goals try (exfalso; omega)
        go_roundw
        case rel => exact ⟨k + 1, by simp, by omega, by trivial, HN.out⟩
        case measure => simp [intOf]; omega
    · obtain rfl : k = s.size := by omega
      have HR : Hid (s.data.toList.all inI = true) := by
        rw [Hid, List.all_eq_true]
        intro c hc
        exact HA.out c (by rw [← HSZ.out, List.take_length]; exact hc)
      go_wp2
      all_goals try (exfalso; omega)
      go_ret
      exact ⟨ret_bool HR.out.symm, rfl⟩
set_option maxRecDepth 100000 in
theorem variable_any (s : ByteArray) (w : World) (hs : s.size ≤ maxLen) : Calls Tryd.prog 45 #[.string s] w fun e w' => e = .returned (.bool (varB s.data.toList)) ∧ w = w' := by
  have HSZ : Hid (s.data.toList.length = s.size) := by rw [Hid]; simp
  have HF := Lib.hid (fun W => fits_any s 63 W hs)
  have HL : Hid (varB s.data.toList = ((decide (1 ≤ s.size) && decide (s.size ≤ 63)) && (!digB (s.data.toList.headD 0) && s.data.toList.all inV))) := by
    rw [Hid, varB, HSZ.out]
  cases hf : (decide (1 ≤ s.size) && decide (s.size ≤ 63)) with
  | false =>
    rw [hf] at HF HL
    clear hf hs
    generalize varB s.data.toList = r at *
    go_enter Tryd.func45, Tryd.ntmps45
    go_wp2_with (go_at_call 46; refine (HF.out _).mono ?_; rintro e w' ⟨rfl, rfl⟩)
    go_ret
    exact ⟨ret_bool (by rw [HL.out]; rfl), rfl⟩
  | true =>
    rw [hf] at HF HL
    simp only [Bool.and_eq_true, decide_eq_true_eq] at hf
    obtain ⟨h1, h2⟩ := hf
    have HA := Lib.hid (fun W => allV_any s W (by omega))
    have h0 : 0 < s.size := by omega
    have HH : Hid (s.data.toList.headD 0 = s[0]) := by
      rw [Hid, List.headD_eq_head?_getD, List.head?_eq_getElem?, List.getElem?_eq_getElem (by rw [HSZ.out]; exact h0)]; rfl
    have HL2 : Hid (varB s.data.toList = (!digB (s[0]) && s.data.toList.all inV)) := by
      rw [Hid, HL.out, HH.out]; rfl
    have HD := Lib.hid (fun W => dig_any s[0] W)
    have HS := Lib.hid (fun W => small_any s[0] W)
    clear HL HH hs
    generalize varB s.data.toList = r at *
    generalize s.data.toList.all inV = al at *
    generalize digB s[0] = dg at *
    generalize smallB s[0] = sm at *
    cases al <;> cases dg <;> cases sm
    all_goals go_enter Tryd.func45, Tryd.ntmps45
    all_goals go_wp2_with (first | (go_at_call 46; refine (HF.out _).mono ?_; rintro e w' ⟨rfl, rfl⟩) | (go_at_call 48; refine (HA.out _).mono ?_; rintro e w' ⟨rfl, rfl⟩) | (go_at_call 72; refine (HD.out _).mono ?_; rintro e w' ⟨rfl, rfl⟩) | (go_at_call 76; refine (HS.out _).mono ?_; rintro e w' ⟨rfl, rfl⟩))
    all_goals go_ret
    all_goals refine ⟨?_, rfl⟩
    all_goals refine ret_bool ?_
    all_goals rw [HL2.out]
    all_goals rfl
set_option maxRecDepth 100000 in
theorem image_any (s : ByteArray) (w : World) (hs : s.size ≤ maxLen) : Calls Tryd.prog 51 #[.string s] w fun e w' => e = .returned (.bool (imgB s.data.toList)) ∧ w = w' := by
  have HSZ : Hid (s.data.toList.length = s.size) := by rw [Hid]; simp
  have HF := Lib.hid (fun W => fits_any s 255 W hs)
  have HL : Hid (imgB s.data.toList = ((decide (1 ≤ s.size) && decide (s.size ≤ 255)) && ((smallB (s.data.toList.headD 0) || digB (s.data.toList.headD 0)) && s.data.toList.all inI))) := by
    rw [Hid, imgB, HSZ.out]
  cases hf : (decide (1 ≤ s.size) && decide (s.size ≤ 255)) with
  | false =>
    rw [hf] at HF HL
    clear hf hs
    generalize imgB s.data.toList = r at *
    go_enter Tryd.func51, Tryd.ntmps51
    go_wp2_with (go_at_call 46; refine (HF.out _).mono ?_; rintro e w' ⟨rfl, rfl⟩)
    go_ret
    exact ⟨ret_bool (by rw [HL.out]; rfl), rfl⟩
  | true =>
    rw [hf] at HF HL
    simp only [Bool.and_eq_true, decide_eq_true_eq] at hf
    obtain ⟨h1, h2⟩ := hf
    have HA := Lib.hid (fun W => allI_any s W (by omega))
    have h0 : 0 < s.size := by omega
    have HH : Hid (s.data.toList.headD 0 = s[0]) := by
      rw [Hid, List.headD_eq_head?_getD, List.head?_eq_getElem?, List.getElem?_eq_getElem (by rw [HSZ.out]; exact h0)]; rfl
    have HL2 : Hid (imgB s.data.toList = ((smallB (s[0]) || digB (s[0])) && s.data.toList.all inI)) := by
      rw [Hid, HL.out, HH.out]; rfl
    have HD := Lib.hid (fun W => dig_any s[0] W)
    have HS := Lib.hid (fun W => small_any s[0] W)
    clear HL HH hs
    generalize imgB s.data.toList = r at *
    generalize s.data.toList.all inI = al at *
    generalize digB s[0] = dg at *
    generalize smallB s[0] = sm at *
    cases al <;> cases dg <;> cases sm
    all_goals go_enter Tryd.func51, Tryd.ntmps51
    all_goals go_wp2_with (first | (go_at_call 46; refine (HF.out _).mono ?_; rintro e w' ⟨rfl, rfl⟩) | (go_at_call 48; refine (HA.out _).mono ?_; rintro e w' ⟨rfl, rfl⟩) | (go_at_call 72; refine (HD.out _).mono ?_; rintro e w' ⟨rfl, rfl⟩) | (go_at_call 76; refine (HS.out _).mono ?_; rintro e w' ⟨rfl, rfl⟩))
    all_goals go_ret
    all_goals refine ⟨?_, rfl⟩
    all_goals refine ret_bool ?_
    all_goals rw [HL2.out]
    all_goals rfl
end Go.Proofs.YtfhhmajkacjbgaaDoor
namespace Go.Proofs.YtfhhmajkacjbgaaDoor
open Go.ChangeShapes Go.WideShapes Go.ChangeAt Go.RowKit
attribute [local go_sem ↓] Go.wp_at_zero Go.wp_at_succ

theorem cell_grown {w w' : World} {b : Nat} (hg : w.grownBy w' (some b)) {p : Addr} {v : Value} (hc : w.cell? p = some v) (hne : p.block ≠ b) : w'.cell? p = some v := by
  have h1 := World.block_lt_of_cell? w p hc
  have h2 := hg.block p.block h1 (fun e => hne (by cases e; rfl))
  unfold World.cell? at hc ⊢
  rw [h2]; exact hc
theorem nameE_var (v : ByteArray × ByteArray) (r : List (ByteArray × ByteArray)) (al : List ByteArray) : envE al (v :: r) = if nameE (varB v.1.data.toList) v.1 al = 0 then (if textE v.2 = 0 then envE (al ++ [v.1]) r else textE v.2) else nameE (varB v.1.data.toList) v.1 al := by
  rw [envE]
  unfold nameE
  cases varB v.1.data.toList <;> cases memT v.1 al <;> simp
def namesE (l : List (ByteArray × ByteArray)) : List ByteArray := l.map (·.1)
set_option maxRecDepth 100000 in
set_option maxHeartbeats 2000000 in
theorem envFault_any (l : List (ByteArray × ByteArray)) (a : Option Addr) (c : Nat) (w : World) (hT : Tabs w) (h : RowAt w a (ecells l)) (hl : l.length ≤ 900000) (hn : ∀ v ∈ l, v.1.size ≤ 1000000 ∧ v.2.size ≤ 1000000) :
    Calls Tryd.prog 54 #[.slice a l.length c] w fun e w' => e = .returned (.int .i64 (envE [] l)) ∧ Fresh w w' := by
  have HT := Lib.hid hT
  have HR := Lib.hid h
  have HN := Lib.hid hn
  have hmm := @run_makeMap Tryd.prog
  have HM0 := Lib.hid (seen_made w)
  have HF0 := Lib.hid ((Fresh.refl w).alloc (.map #[] 0))
  clear hT h hn
  go_enter Tryd.func54, Tryd.ntmps54
  go_wp2
  generalize w.alloc (.map #[] 0) = W0 at *
  obtain ⟨b, hb⟩ : ∃ b, b = w.heap.size := ⟨_, rfl⟩
  have HBW := Lib.hid hb
  rw [← hb] at HM0 ⊢
  clear hb hmm
  go_loopw [11] (fun a11 wr => ∃ (k : Nat), a11 = .int .i64 (k : Int) ∧ k ≤ l.length ∧ Hid (envE [] l = envE (namesE (l.take k)) (l.drop k)) ∧ Hid (seenIs wr b k (namesE (l.take k))) ∧ Hid (Fresh w wr)) (fun a11 _ => l.length - (intOf a11).toNat)
  case atStart => exact ⟨0, rfl, Nat.zero_le _, rfl, HM0.out, HF0.out⟩
  case round =>
    obtain ⟨k, rfl, hk, HE, HS, HF⟩ := hrel
    by_cases hlt : k < l.length
    · obtain ⟨g, o1, rfl, hc⟩ := erow_form (HR.out.move HF.out) hlt
      obtain ⟨c0, c1⟩ := hc k hlt
      have HST : Hid (envE [] l = if nameE (varB l[k].1.data.toList) l[k].1 (namesE (l.take k)) = 0 then (if textE l[k].2 = 0 then envE (namesE (l.take (k + 1))) (l.drop (k + 1)) else textE l[k].2) else nameE (varB l[k].1.data.toList) l[k].1 (namesE (l.take k))) := by
        rw [Hid, HE.out, List.drop_eq_getElem_cons hlt, nameE_var, List.take_succ_eq_append_getElem hlt, show namesE (l.take k ++ [l[k]]) = namesE (l.take k) ++ [l[k].1] by unfold namesE; rw [List.map_append]; rfl]
      have HTK : Hid (namesE (l.take (k + 1)) = namesE (l.take k) ++ [l[k].1]) := by
        rw [Hid, List.take_succ_eq_append_getElem hlt, show namesE (l.take k ++ [l[k]]) = namesE (l.take k) ++ [l[k].1] by unfold namesE; rw [List.map_append]; rfl]
      have HSZ : Hid (l[k].1.size ≤ 1000000 ∧ l[k].2.size ≤ 1000000) := HN.out _ (List.getElem_mem hlt)
      clear hc
      generalize l[k].1 = u at *
      generalize l[k].2 = v at *
      have HV := Lib.hid (fun W => variable_any u W (by have := HSZ.out.1; unfold maxLen; omega))
      have HQ : Hid (∀ W, W.heap[b]? = wr.heap[b]? → Calls Tryd.prog 50 #[.string u, .bool (varB u.data.toList), .map (some b)] W fun e w' => e = .returned (.int .i64 (nameE (varB u.data.toList) u (namesE (l.take k)))) ∧ (nameE (varB u.data.toList) u (namesE (l.take k)) = 0 → seenIs w' b (k + 1) (namesE (l.take k) ++ [u])) ∧ W.grownBy w' (some b)) := fun W hW =>
        nameFault_any u _ b k _ W HSZ.out.1 (by omega) (HS.out.move hW)
      have HX : Hid (∀ W, Fresh w W → Calls Tryd.prog 78 #[.string v] W fun e w' => e = .returned (.int .i64 (textE v)) ∧ Fresh W w') := fun W f => textFault_any v W HSZ.out.2 (HT.out.move f)
      have HB9 := Lib.hid (at_new wr (.cells #[.string u, .string v] 64))
      have HF1 := Lib.hid ((Fresh.refl wr).alloc (.cells #[.string u, .string v] 64))
      have HNE : Hid (wr.heap.size ≠ b) := by have := HS.out.lt; rw [Hid]; omega
      have HSB : Hid ((wr.alloc (.cells #[.string u, .string v] 64)).heap[b]? = wr.heap[b]?) := HF1.out.block b HS.out.lt
      generalize nameE (varB u.data.toList) u (namesE (l.take k)) = ne at *
      generalize textE v = te at *
      generalize varB u.data.toList = vb at *
      go_wp2_with (fail)
      all_goals try (exfalso; omega)
      generalize hW1 : wr.alloc (.cells #[.string u, .string v] 64) = W1 at *
      clear hW1
      generalize hz : wr.heap.size = z at *
      clear hz
      have r0 := cell_of_at HB9.out (i := 0) (v := .string u) rfl
      have HKP : Hid (∀ w', W1.drew.grownBy w' (some b) → w'.cell? ⟨z, 0, none⟩ = some (.string u) ∧ w'.cell? ⟨z, 1, none⟩ = some (.string v) ∧ Fresh w w') := fun w' hg =>
        ⟨cell_grown hg (cell_of_at HB9.out (i := 0) (v := .string u) rfl) HNE.out, cell_grown hg (cell_of_at HB9.out (i := 1) (v := .string v) rfl) HNE.out, (HF.out.trans HF1.out).drew.grown hg (fun g e => by cases e; exact Nat.le_of_eq HBW.out.symm)⟩
      have HV2 := Lib.hid (HV.out W1.drew)
      have HQ2 := Lib.hid (HQ.out W1.drew HSB.out)
      go_region_held3 (fun w' => w'.cell? ⟨z, 0, none⟩ = some (.string u)) (go_keep)
        (first | (go_at_call 45; (with_reducible refine HV2.out.mono ?_); rintro e W2 ⟨rfl, rfl⟩) | (go_at_call 50; (with_reducible refine HQ2.out.mono ?_); rintro e W2 ⟨rfl, hs5, hg⟩; have HS5 := Lib.hid hs5; obtain ⟨k0, k1, k2⟩ := HKP.out _ hg; have HF5 := Lib.hid k2; clear hs5 hg k2))
      by_cases hne : ne = 0
      · subst hne
        have HS6 := Lib.hid (HS5.out rfl)
        have HST2 : Hid (envE [] l = if te = 0 then envE (namesE (l.take (k + 1))) (l.drop (k + 1)) else te) := by rw [Hid, HST.out, if_pos rfl]
        clear HST HS5
        go_wp2_with (fail)
        refine (HX.out _ HF5.out).mono ?_
        rintro e W3 ⟨rfl, hf⟩
        have HF6 := Lib.hid (HF5.out.trans hf)
        have HS7 := Lib.hid (HS6.out.fresh hf)
        clear hf
        by_cases hte : te = 0
        · have HN2 : Hid (envE [] l = envE (namesE (l.take (k + 1))) (l.drop (k + 1))) := by rw [Hid, HST2.out, if_pos hte]
          subst hte
          clear HST2
          go_wp2
          all_goals try (exfalso; omega)
          go_roundw
          case rel => exact ⟨k + 1, by simp, by omega, HN2.out, by rw [HTK.out]; exact HS7.out, HF6.out⟩
          case measure => simp [intOf]; omega
        · have HR2 : Hid (envE [] l = te) := by rw [Hid, HST2.out, if_neg hte]
          have e0 : (te == 0) = false := by rw [beq_eq_false_iff_ne]; exact hte
          have e1 : (te != 0) = true := by simp [hte]
          clear HST2
          go_wp2
          all_goals try (exfalso; omega)
          go_ret
          exact ⟨ret_int HR2.out.symm, HF6.out⟩
      · have HR2 : Hid (envE [] l = ne) := by rw [Hid, HST.out, if_neg hne]
        have e0 : (ne == 0) = false := by rw [beq_eq_false_iff_ne]; exact hne
        have e1 : (ne != 0) = true := by simp [hne]
        clear HST
        go_wp2
        all_goals try (exfalso; omega)
        go_ret
        exact ⟨ret_int HR2.out.symm, HF5.out⟩
    · obtain rfl : k = l.length := by omega
      have HR2 : Hid (envE [] l = 0) := by rw [Hid, HE.out, List.drop_length]; rfl
      go_wp2
      all_goals try (exfalso; omega)
      go_ret
      exact ⟨ret_int HR2.out.symm, HF.out⟩
end Go.Proofs.YtfhhmajkacjbgaaDoor
namespace Go.Proofs.YtfhhmajkacjbgaaDoor
open Go.ChangeShapes Go.WideShapes Go.ChangeAt Go.RowKit

def cmdW (l : List ByteArray) : Nat := (l.map fun s => 10 + s.size).sum
def envW (l : List (ByteArray × ByteArray)) : Nat := (l.map fun v => 10 + v.1.size + v.2.size).sum
def ctW (c : Ct) : Nat := 20 + c.name.size + c.image.size + 10 * c.ports.length + cmdW c.cmd + envW c.env
def weightA : Nat → List Ct → Nat
  | n, [] => n
  | n, c :: r => if 20000 < n + ctW c then 20001 else weightA (n + ctW c) r
def weight (p : Pd) : Nat := weightA (p.name.size + p.ns.size) p.cs
theorem sum_snoc {α : Type} (f : α → Nat) (l : List α) (k : Nat) (h : k < l.length) : ((l.take (k + 1)).map f).sum = ((l.take k).map f).sum + f l[k] := by
  rw [List.take_succ_eq_append_getElem h, List.map_append, List.sum_append]
  simp
theorem sum_le {α : Type} (f : α → Nat) (l : List α) (b : Nat) (h : ∀ x ∈ l, f x ≤ b) : (l.map f).sum ≤ l.length * b := by
  induction l with
  | nil => simp
  | cons x l ih =>
    have h1 := h x (by simp)
    have h2 := ih (fun y hy => h y (by simp [hy]))
    rw [List.map_cons, List.sum_cons, List.length_cons, Nat.succ_mul]
    omega
theorem take_sum_le {α : Type} (f : α → Nat) (l : List α) (b k : Nat) (h : ∀ x ∈ l, f x ≤ b) (hl : l.length ≤ 1048576) (hb : b ≤ 4000000) : ((l.take k).map f).sum ≤ 4194304000000 := by
  have h1 := sum_le f (l.take k) b (fun x hx => h x (List.mem_of_mem_take hx))
  have h2 : (l.take k).length ≤ 1048576 := by rw [List.length_take]; omega
  have h3 : (l.take k).length * b ≤ 1048576 * 4000000 := Nat.mul_le_mul h2 hb
  omega
set_option maxRecDepth 100000 in
set_option maxHeartbeats 4000000 in
theorem weight_any (p : PM) (w : World) (h : p.At w) (hl : p.Low) : Calls Tryd.prog 23 #[p.val] w fun e w' => e = .returned (.int .i64 (weight p.pd : Int)) ∧ Fresh w w' := by
  obtain ⟨name, ns, rs, gr, ho, a, cap, cs⟩ := p
  have HROW := Lib.hid h.row
  have HINS := Lib.hid h.ins
  have HLC := Lib.hid hl.cs
  have hn1 := hl.name
  have hn2 := hl.ns
  have hn3 := hl.len
  have HW : Hid (weight (PM.mk name ns rs gr ho a cap cs).pd = weightA (name.size + ns.size) (cs.map (·.c))) := rfl
  dsimp only [PM.val] at *
  clear h hl
  have HA := Lib.hid (at_new w (.cells #[.string name, .string ns, .int .i64 rs, .int .i64 gr, .bool ho, .slice a cs.length cap] 25))
  have HF0 := Lib.hid ((Fresh.refl w).alloc (.cells #[.string name, .string ns, .int .i64 rs, .int .i64 gr, .bool ho, .slice a cs.length cap] 25))
  rw [HW.out]
  go_enter Tryd.func23, Tryd.ntmps23
  go_wp2
  generalize w.alloc (.cells #[.string name, .string ns, .int .i64 rs, .int .i64 gr, .bool ho, .slice a cs.length cap] 25) = W0 at *
  go_loopw [3, 20] (fun a3 a20 wr => ∃ (k n : Nat), a20 = .int .i64 (k : Int) ∧ a3 = .int .i64 (n : Int) ∧ k ≤ cs.length ∧ n ≤ 3000000 ∧ Hid (weightA (name.size + ns.size) (cs.map (·.c)) = weightA n ((cs.drop k).map (·.c))) ∧ Hid (Fresh W0 wr)) (fun _ a20 _ => cs.length - (intOf a20).toNat)
  case atStart => exact ⟨0, name.size + ns.size, rfl, by simp, Nat.zero_le _, by omega, rfl, Fresh.refl _⟩
  case round =>
    obtain ⟨k, n, rfl, rfl, hk, hn, HE, HF⟩ := hrel
    by_cases hlt : k < cs.length
    · obtain ⟨g, o1, rfl, hc⟩ := crow_form ((HROW.out.move HF0.out).move HF.out) hlt
      obtain ⟨c0, c1, c2, c3, c4, c5, c6⟩ := hc k hlt
      have HIN : Hid (cs[k].In wr) := (HINS.out _ (List.getElem_mem hlt)).move (HF0.out.trans HF.out)
      have HLOW := Lib.hid (HLC.out _ (List.getElem_mem hlt))
      have HE2 : Hid (weightA n ((cs.drop k).map (·.c)) = if 20000 < n + ctW cs[k].c then 20001 else weightA (n + ctW cs[k].c) ((cs.drop (k + 1)).map (·.c))) := by
        rw [Hid, List.drop_eq_getElem_cons hlt, List.map_cons, weightA]
      clear hc
      generalize cs[k] = m at *
      have d1 := HLOW.out.name
      have d2 := HLOW.out.image
      have d3 := HLOW.out.lp
      have d4 := HLOW.out.lc
      have d5 := HLOW.out.le
      have HCW : Hid (ctW m.c = 20 + m.c.name.size + m.c.image.size + 10 * m.c.ports.length + cmdW m.c.cmd + envW m.c.env) := rfl
      have HPC : Hid (∀ j, cmdW (m.c.cmd.take j) ≤ 4194304000000) := fun j => take_sum_le _ _ 1048586 j (fun s hs => by have := HLOW.out.cmd s hs; omega) d4 (by omega)
      have HPE : Hid (∀ j, envW (m.c.env.take j) ≤ 4194304000000) := fun j => take_sum_le _ _ 2097162 j (fun v hv => by have := HLOW.out.env v hv; omega) d5 (by omega)
      have hn0 : (n : Int) + (20 + (m.c.name.size : Int) + (m.c.image.size : Int) + 10 * (m.c.ports.length : Int)) = ((n + (20 + m.c.name.size + m.c.image.size + 10 * m.c.ports.length) : Nat) : Int) := by omega
      obtain ⟨s0, hs0⟩ : ∃ s0, s0 = n + (20 + m.c.name.size + m.c.image.size + 10 * m.c.ports.length) := ⟨_, rfl⟩
      rw [← hs0] at hn0
      have HS0 := Lib.hid hs0
      have hsb : s0 ≤ 20000000 := by omega
      clear hs0
      have HB1 := Lib.hid (at_new wr (.cells #[.string m.c.name, .string m.c.image, .slice m.ca m.c.cmd.length m.cc, .slice m.pa m.c.ports.length m.pc, .int .i64 m.c.cpu, .int .i64 m.c.mem, .slice m.ea m.c.env.length m.ec] 53))
      have HF1 := Lib.hid ((Fresh.refl wr).alloc (.cells #[.string m.c.name, .string m.c.image, .slice m.ca m.c.cmd.length m.cc, .slice m.pa m.c.ports.length m.pc, .int .i64 m.c.cpu, .int .i64 m.c.mem, .slice m.ea m.c.env.length m.ec] 53))
      go_wp2
      generalize wr.alloc (.cells #[.string m.c.name, .string m.c.image, .slice m.ca m.c.cmd.length m.cc, .slice m.pa m.c.ports.length m.pc, .int .i64 m.c.cpu, .int .i64 m.c.mem, .slice m.ea m.c.env.length m.ec] 53) = W1 at *
      clear c0 c1 c2 c3 c4 c5 c6
      go_loopw [3, 42] (fun a3 a42 wq => ∃ (j s : Nat), a42 = .int .i64 (j : Int) ∧ a3 = .int .i64 (s : Int) ∧ j ≤ m.c.cmd.length ∧ Hid (s = s0 + cmdW (m.c.cmd.take j)) ∧ W1 = wq) (fun _ a42 _ => m.c.cmd.length - (intOf a42).toNat)
      case atStart => exact ⟨0, s0, rfl, rfl, Nat.zero_le _, by simp [Hid, cmdW], rfl⟩
      case round =>
        obtain ⟨j, s, rfl, rfl, hj, HS, rfl⟩ := hrel
        have hs1 : s ≤ 4194324000000 := by have := HS.out; have := HPC.out j; omega
        by_cases hlt2 : j < m.c.cmd.length
        · obtain ⟨g2, o2, e2, hc2⟩ := trow_form (HIN.out.cmd.move HF1.out) hlt2
          have c1 := hc2 j hlt2
          have HSN : Hid (cmdW (m.c.cmd.take (j + 1)) = cmdW (m.c.cmd.take j) + (10 + m.c.cmd[j].size)) := sum_snoc _ _ j hlt2
          have hx := HLOW.out.cmd _ (List.getElem_mem hlt2)
          clear hc2
          generalize m.c.cmd[j] = x at *
          have hadd : (s : Int) + (10 + (x.size : Int)) = ((s + (10 + x.size) : Nat) : Int) := by omega
          have HS2 : Hid (s + (10 + x.size) = s0 + cmdW (m.c.cmd.take (j + 1))) := by rw [Hid, HSN.out, HS.out]; omega
          generalize hs2 : s + (10 + x.size) = s2 at *
          clear hs2
          rw [e2]
          go_wp2
          all_goals try (exfalso; omega)
          go_roundw
          case rel => exact ⟨j + 1, s2, by simp, rfl, by omega, HS2.out, by trivial⟩
          case measure => simp [intOf]; omega
        · obtain rfl : j = m.c.cmd.length := by omega
          have HS3 : Hid (s = s0 + cmdW m.c.cmd) := by have := HS.out; rw [List.take_length] at this; exact this
          have HB6 := cell_of_at HB1.out (i := 6) (v := .slice m.ea m.c.env.length m.ec) rfl
          clear HS
          go_wp2
          all_goals try (exfalso; omega)
          go_loopw [3, 55] (fun a3 a55 wq => ∃ (j s' : Nat), a55 = .int .i64 (j : Int) ∧ a3 = .int .i64 (s' : Int) ∧ j ≤ m.c.env.length ∧ Hid (s' = s + envW (m.c.env.take j)) ∧ Hid (Fresh W1 wq)) (fun _ a55 _ => m.c.env.length - (intOf a55).toNat)
          case atStart => exact ⟨0, s, rfl, rfl, Nat.zero_le _, by simp [Hid, envW], Fresh.refl _⟩
          case round =>
            obtain ⟨j, s', rfl, rfl, hj, HS, HFq⟩ := hrel
            have hs1' : s' ≤ 8388628000000 := by have := HS.out; have := HPE.out j; omega
            by_cases hlt2 : j < m.c.env.length
            · obtain ⟨g2, o2, e2, hc2⟩ := erow_form ((HIN.out.env.move HF1.out).move HFq.out) hlt2
              obtain ⟨c1, c2⟩ := hc2 j hlt2
              have HSN : Hid (envW (m.c.env.take (j + 1)) = envW (m.c.env.take j) + (10 + m.c.env[j].1.size + m.c.env[j].2.size)) := sum_snoc _ _ j hlt2
              obtain ⟨hx, hy⟩ := HLOW.out.env _ (List.getElem_mem hlt2)
              clear hc2
              generalize m.c.env[j].1 = x at *
              generalize m.c.env[j].2 = y at *
              have hadd : (s' : Int) + (10 + (x.size : Int) + (y.size : Int)) = ((s' + (10 + x.size + y.size) : Nat) : Int) := by omega
              have HS2 : Hid (s' + (10 + x.size + y.size) = s + envW (m.c.env.take (j + 1))) := by rw [Hid, HSN.out, HS.out]; omega
              generalize hs2 : s' + (10 + x.size + y.size) = s2 at *
              clear hs2
              rw [e2]
              go_wp2
              all_goals try (exfalso; omega)
              go_roundw
              case rel => exact ⟨j + 1, s2, by simp, rfl, by omega, HS2.out, HFq.out.alloc _⟩
              case measure => simp [intOf]; omega
            · obtain rfl : j = m.c.env.length := by omega
              have HS4 : Hid (n + ctW m.c = s') := by
                have h1 := HS.out
                rw [List.take_length] at h1
                have h2 := HS3.out
                have h3 := HS0.out
                have h4 := HCW.out
                rw [Hid]; omega
              rw [HS4.out] at HE2
              clear HS
              by_cases hbig : 20000 < s'
              · have HR : Hid (weightA (name.size + ns.size) (cs.map (·.c)) = 20001) := by rw [Hid, HE.out, HE2.out, if_pos hbig]
                go_wp2
                all_goals try (exfalso; omega)
                go_ret
                exact ⟨ret_int (by rw [HR.out]; rfl), ((HF0.out.trans HF.out).trans HF1.out).trans HFq.out⟩
              · have HR : Hid (weightA (name.size + ns.size) (cs.map (·.c)) = weightA s' ((cs.drop (k + 1)).map (·.c))) := by rw [Hid, HE.out, HE2.out, if_neg hbig]
                go_wp2
                all_goals try (exfalso; omega)
                go_roundw
                case rel => exact ⟨k + 1, s', by simp, rfl, by omega, by omega, HR.out, (HF.out.trans HF1.out).trans HFq.out⟩
                case measure => simp [intOf]; omega
    · obtain rfl : k = cs.length := by omega
      have HE3 : Hid (weightA (name.size + ns.size) (cs.map (·.c)) = n) := by rw [Hid, HE.out, List.drop_length]; rfl
      go_wp2
      all_goals try (exfalso; omega)
      go_ret
      exact ⟨ret_int (by rw [HE3.out]), HF0.out.trans HF.out⟩
end Go.Proofs.YtfhhmajkacjbgaaDoor
namespace Go.Proofs.YtfhhmajkacjbgaaDoor
open Go.ChangeShapes Go.WideShapes Go.ChangeAt Go.RowKit

set_option maxRecDepth 100000 in
theorem podSmall_any (p : PM) (w : World) (h : p.At w) (hl : p.Low) : Calls Tryd.prog 6 #[p.val] w fun e w' => e = .returned (.bool (decide (weight p.pd ≤ 20000))) ∧ Fresh w w' := by
  have HA := Lib.hid (fun W (f : Fresh w W) => weight_any p W (h.move f) hl)
  clear h hl
  generalize weight p.pd = n at *
  obtain ⟨name, ns, rs, gr, ho, a, cap, cs⟩ := p
  dsimp only [PM.val] at *
  have HF0 := Lib.hid ((Fresh.refl w).alloc (.cells #[.string name, .string ns, .int .i64 rs, .int .i64 gr, .bool ho, .slice a cs.length cap] 25))
  have HW := Lib.hid (HA.out _ HF0.out)
  go_enter Tryd.func6, Tryd.ntmps6
  go_wp2_with (fail)
  refine HW.out.mono ?_
  rintro e w1 ⟨rfl, hf⟩
  have HF := Lib.hid hf
  clear hf
  go_wp2
  go_ret
  exact ⟨ret_bool (by rw [Bool.eq_iff_iff]; simp only [decide_eq_true_eq]; omega), HF0.out.trans HF.out⟩
theorem mem_sum {α : Type} (f : α → Nat) {l : List α} {x : α} (h : x ∈ l) : f x ≤ (l.map f).sum := by
  induction l with
  | nil => cases h
  | cons y l ih =>
    rw [List.map_cons, List.sum_cons]
    rcases List.mem_cons.1 h with rfl | h
    · omega
    · have := ih h; omega
theorem len_sum {α : Type} (f : α → Nat) (b : Nat) (l : List α) (h : ∀ x, b ≤ f x) : l.length * b ≤ (l.map f).sum := by
  induction l with
  | nil => simp
  | cons y l ih =>
    rw [List.map_cons, List.sum_cons, List.length_cons, Nat.succ_mul]
    have := h y
    omega
/-- A container that is small. -/
structure Ct.Sml (c : Ct) : Prop where
  name : c.name.size ≤ 20000
  image : c.image.size ≤ 20000
  lc : c.cmd.length ≤ 2000
  lp : c.ports.length ≤ 2000
  le : c.env.length ≤ 2000
  cmd : ∀ s ∈ c.cmd, s.size ≤ 20000
  env : ∀ v ∈ c.env, v.1.size ≤ 20000 ∧ v.2.size ≤ 20000
theorem sml_of {c : Ct} (h : ctW c ≤ 20000) : c.Sml := by
  unfold ctW cmdW envW at h
  have h1 := len_sum (fun s : ByteArray => 10 + s.size) 10 c.cmd (fun s => by omega)
  have h2 := len_sum (fun v : ByteArray × ByteArray => 10 + v.1.size + v.2.size) 10 c.env (fun s => by omega)
  exact { name := by omega, image := by omega, lc := by omega, lp := by omega, le := by omega,
          cmd := fun s hs => by have := mem_sum (fun s : ByteArray => 10 + s.size) hs; omega,
          env := fun v hv => by have := mem_sum (fun v : ByteArray × ByteArray => 10 + v.1.size + v.2.size) hv; omega }
theorem weightA_le : ∀ (l : List Ct) (n : Nat), weightA n l ≤ 20000 → n + l.length * 20 ≤ 20000 ∧ ∀ c ∈ l, ctW c ≤ 20000
  | [], n, h => by
    rw [weightA] at h
    exact ⟨by simpa using h, fun c hc => by cases hc⟩
  | c :: r, n, h => by
    rw [weightA] at h
    by_cases hb : 20000 < n + ctW c
    · rw [if_pos hb] at h; omega
    · rw [if_neg hb] at h
      obtain ⟨h1, h2⟩ := weightA_le r _ h
      have h20 : 20 ≤ ctW c := by unfold ctW; omega
      refine ⟨by rw [List.length_cons, Nat.succ_mul]; omega, fun x hx => ?_⟩
      rcases List.mem_cons.1 hx with rfl | hx
      · omega
      · exact h2 x hx
/-- A pod that is small. -/
structure Pd.Sml (p : Pd) : Prop where
  name : p.name.size ≤ 20000
  ns : p.ns.size ≤ 20000
  len : p.cs.length ≤ 1000
  cs : ∀ c ∈ p.cs, c.Sml
theorem pod_sml {p : Pd} (h : weight p ≤ 20000) : p.Sml := by
  obtain ⟨h1, h2⟩ := weightA_le p.cs _ h
  exact ⟨by omega, by omega, by omega, fun c hc => sml_of (h2 c hc)⟩
end Go.Proofs.YtfhhmajkacjbgaaDoor
namespace Go.Proofs.YtfhhmajkacjbgaaDoor
open Go.ChangeShapes Go.WideShapes Go.ChangeAt Go.RowKit
attribute [local go_sem ↓] Go.wp_at_zero Go.wp_at_succ

theorem ctE_name (al : List ByteArray) (c : Ct) : ctE al c = if nameE (labB c.name.data.toList) c.name al = 0 then restE c else nameE (labB c.name.data.toList) c.name al := by
  unfold ctE nameE
  cases labB c.name.data.toList <;> cases memT c.name al <;> simp
theorem restE_all {c : Ct} (h : imgB c.image.data.toList = true) (h2 : manyE c = false) (h3 : rangeE c = false) : restE c = if cmdE c.cmd = 0 then (if portsE [] c.ports = 0 then envE [] c.env else portsE [] c.ports) else cmdE c.cmd := by
  unfold restE
  rw [if_pos h, if_neg (by rw [h2]; decide), if_neg (by rw [h3]; decide)]
set_option maxRecDepth 100000 in
set_option maxHeartbeats 4000000 in
/-- w0: a world ahead, in which the container's rows lay; block b, made behind it, holds the names that were met. -/
theorem fault_any (m : CM) (w0 w : World) (b n : Nat) (L : List ByteArray) (hT : Tabs w0) (hm : m.In w0) (hs : m.c.Sml) (hcap : m.c.ports.length ≤ m.pc) (hf0 : Fresh w0 w) (hb : w0.heap.size ≤ b) (hn : n ≤ 1000) (hS : seenIs w b n L) :
    Calls Tryd.prog 31 #[m.val, .map (some b)] w fun e w' => e = .returned (.int .i64 (ctE L m.c)) ∧ (ctE L m.c = 0 → seenIs w' b (n + 1) (L ++ [m.c.name])) ∧ Fresh w0 w' := by
  obtain ⟨⟨s0, s1, lc, lp, n4, n5, le⟩, ca, cc, pa, pc, ea, ec⟩ := m
  have HSM := Lib.hid hs
  have HNE := Lib.hid (ctE_name L ⟨s0, s1, lc, lp, n4, n5, le⟩)
  have HLN := Lib.hid (fun W => label_any s0 W (Nat.le_trans (show s0.size ≤ 20000 from HSM.out.name) (by unfold maxLen; omega)))
  have HIM := Lib.hid (fun W => image_any s1 W (Nat.le_trans (show s1.size ≤ 20000 from HSM.out.image) (by unfold maxLen; omega)))
  have HF0 := Lib.hid hf0
  have HCM := Lib.hid (fun W (f : Fresh w0 W) => cmdFault_any lc ca cc W (hT.move f) (hm.cmd.move f) (by have := HSM.out.lc; dsimp only at this; omega) (fun s h => by have := HSM.out.cmd s h; omega))
  have HPO := Lib.hid (fun W (f : Fresh w0 W) => portsFault_any lp pa pc W (hm.ports.move f) (by have := HSM.out.lp; dsimp only at this; omega) hcap)
  have HEN := Lib.hid (fun W (f : Fresh w0 W) => envFault_any le ea ec W (hT.move f) (hm.env.move f) (by have := HSM.out.le; dsimp only at this; omega) (fun s h => by have := HSM.out.env s h; omega))
  have HBB := Lib.hid hb
  have HSN := Lib.hid hS
  have HZ : Hid (s0.size ≤ 1000000) := by have := HSM.out.name; rw [Hid]; dsimp only at this; omega
  have HIMG := Lib.hid (fun (h : imgB s1.data.toList = false) => (show restE ⟨s0, s1, lc, lp, n4, n5, le⟩ = 6 by unfold restE; rw [if_neg (by rw [h]; decide)]))
  have HMANY := Lib.hid (fun (h : imgB s1.data.toList = true) (h2 : manyE ⟨s0, s1, lc, lp, n4, n5, le⟩ = true) => (show restE ⟨s0, s1, lc, lp, n4, n5, le⟩ = 18 by unfold restE; rw [if_pos h, if_pos h2]))
  have HRANGE := Lib.hid (fun (h : imgB s1.data.toList = true) (h2 : manyE ⟨s0, s1, lc, lp, n4, n5, le⟩ = false) (h3 : rangeE ⟨s0, s1, lc, lp, n4, n5, le⟩ = true) => (show restE ⟨s0, s1, lc, lp, n4, n5, le⟩ = 7 by unfold restE; rw [if_pos h, if_neg (by rw [h2]; decide), if_pos h3]))
  have HALL := Lib.hid (fun (h : imgB s1.data.toList = true) (h2 : manyE ⟨s0, s1, lc, lp, n4, n5, le⟩ = false) (h3 : rangeE ⟨s0, s1, lc, lp, n4, n5, le⟩ = false) => @restE_all ⟨s0, s1, lc, lp, n4, n5, le⟩ h h2 h3)
  have HMD : Hid (manyE ⟨s0, s1, lc, lp, n4, n5, le⟩ = (decide (16 < lc.length) || (decide (16 < lp.length) || decide (16 < le.length)))) := rfl
  have HRD : Hid (rangeE ⟨s0, s1, lc, lp, n4, n5, le⟩ = (decide (n4 < 1) || (decide (64000 < n4) || (decide (n5 < 1) || decide (1048576 < n5))))) := rfl
  have HBX := Lib.hid (at_new w (.cells #[.string s0, .string s1, .slice ca lc.length cc, .slice pa lp.length pc, .int .i64 n4, .int .i64 n5, .slice ea le.length ec] 53))
  have HF1 := Lib.hid ((Fresh.refl w).alloc (.cells #[.string s0, .string s1, .slice ca lc.length cc, .slice pa lp.length pc, .int .i64 n4, .int .i64 n5, .slice ea le.length ec] 53))
  dsimp only [CM.val] at *
  clear hT hm hs hcap hf0 hb hS HSM
  generalize ctE L ⟨s0, s1, lc, lp, n4, n5, le⟩ = E at *
  generalize restE ⟨s0, s1, lc, lp, n4, n5, le⟩ = RE at *
  generalize manyE ⟨s0, s1, lc, lp, n4, n5, le⟩ = MN at *
  generalize rangeE ⟨s0, s1, lc, lp, n4, n5, le⟩ = RN at *
  generalize cmdE lc = CE at *
  generalize portsE [] lp = PE at *
  generalize envE [] le = EE at *
  have HNF : Hid (∀ W, W.heap[b]? = w.heap[b]? → Calls Tryd.prog 50 #[.string s0, .bool (labB s0.data.toList), .map (some b)] W fun e w' => e = .returned (.int .i64 (nameE (labB s0.data.toList) s0 L)) ∧ (nameE (labB s0.data.toList) s0 L = 0 → seenIs w' b (n + 1) (L ++ [s0])) ∧ W.grownBy w' (some b)) := fun W hW =>
    nameFault_any s0 _ b n L W HZ.out (by omega) (HSN.out.move hW)
  generalize nameE (labB s0.data.toList) s0 L = ne at *
  generalize labB s0.data.toList = lb at *
  generalize imgB s1.data.toList = ib at *
  generalize lc.length = z1 at *
  generalize lp.length = z2 at *
  generalize le.length = z3 at *
  have HSB : Hid ((w.alloc (.cells #[.string s0, .string s1, .slice ca z1 cc, .slice pa z2 pc, .int .i64 n4, .int .i64 n5, .slice ea z3 ec] 53)).heap[b]? = w.heap[b]?) := HF1.out.block b HSN.out.lt
  have HNB : Hid (w.heap.size ≠ b) := by have := HSN.out.lt; rw [Hid]; omega
  go_enter Tryd.func31, Tryd.ntmps31
  go_wp2_with (fail)
  all_goals try (exfalso; omega)
  generalize hW1 : w.alloc (.cells #[.string s0, .string s1, .slice ca z1 cc, .slice pa z2 pc, .int .i64 n4, .int .i64 n5, .slice ea z3 ec] 53) = W1 at *
  clear hW1
  generalize hz : w.heap.size = z at *
  clear hz
  have r0 := cell_of_at HBX.out (i := 0) (v := .string s0) rfl
  have HKP : Hid (∀ w', W1.drew.grownBy w' (some b) → w'.cell? ⟨z, 0, none⟩ = some (.string s0) ∧ Box7 53 w' z s0 s1 (.slice ca z1 cc) (.slice pa z2 pc) n4 n5 (.slice ea z3 ec) ∧ Fresh w0 w') := fun w' hg =>
    ⟨cell_grown hg (cell_of_at HBX.out (i := 0) (v := .string s0) rfl) HNB.out, (hg.block z (lt_of_at HBX.out) (fun e => HNB.out (Option.some.inj e))).trans HBX.out, (HF0.out.trans HF1.out).drew.grown hg (fun g e => by cases e; exact HBB.out)⟩
  have HV2 := Lib.hid (HLN.out W1.drew)
  have HQ2 := Lib.hid (HNF.out W1.drew HSB.out)
  go_region_held3 (fun w' => w'.cell? ⟨z, 0, none⟩ = some (.string s0)) (go_keep)
    (first | (go_at_call 28; (with_reducible refine HV2.out.mono ?_); rintro e W2 ⟨rfl, rfl⟩) | (go_at_call 50; (with_reducible refine HQ2.out.mono ?_); rintro e W2 ⟨rfl, hs5, hg⟩; have HS5 := Lib.hid hs5; obtain ⟨k0, k1, k2⟩ := HKP.out _ hg; have HF5 := Lib.hid k2; have HB5 := Lib.hid k1; clear hs5 hg k2 k1))
  clear r0 k0 HV2 HQ2 HKP HNF HLN
  by_cases hne : ne = 0
  case neg =>
    have HR : Hid (E = ne) := by rw [Hid, HNE.out, if_neg hne]
    have e0 : (ne == 0) = false := by rw [beq_eq_false_iff_ne]; exact hne
    have e1 : (ne != 0) = true := by simp [hne]
    have HR3 := Lib.hid hne
    clear hne
    go_wp2
    all_goals try (exfalso; omega)
    go_ret
    exact ⟨ret_int HR.out.symm, fun e => absurd (HR.out.symm.trans e) HR3.out, HF5.out⟩
  have HE1 : Hid (E = RE) := by rw [Hid, HNE.out, if_pos hne]
  have HS6 := Lib.hid (HS5.out hne)
  subst hne
  clear HNE HS5 HSN
  obtain ⟨⟨c0, c1, c2, c3, c4, c5, c6⟩, _⟩ := HB5.out.cells
  clear c0
  cases ib with
  | false =>
    have HR : Hid (E = 6) := HE1.out.trans (HIMG.out rfl)
    clear HIMG HMANY HRANGE HALL
    go_wp2_with (go_at_call 51; refine (HIM.out _).mono ?_; rintro e w' ⟨rfl, rfl⟩)
    all_goals try (exfalso; omega)
    go_ret
    exact ⟨ret_int HR.out.symm, fun e => absurd (HR.out.symm.trans e) (by decide), HF5.out⟩
  | true =>
    cases MN with
    | true =>
      have HR : Hid (E = 18) := HE1.out.trans (HMANY.out rfl rfl)
      have hd : 16 < z1 ∨ 16 < z2 ∨ 16 < z3 := by
        have := HMD.out.symm
        simp only [Bool.or_eq_true, decide_eq_true_eq] at this
        exact this
      clear HIMG HMANY HRANGE HALL HMD HRD
      go_wp2_with (go_at_call 51; refine (HIM.out _).mono ?_; rintro e w' ⟨rfl, rfl⟩)
      all_goals try (exfalso; omega)
      all_goals go_ret
      all_goals exact ⟨ret_int HR.out.symm, fun e => absurd (HR.out.symm.trans e) (by decide), HF5.out⟩
    | false =>
      have hd : z1 ≤ 16 ∧ z2 ≤ 16 ∧ z3 ≤ 16 := by
        have := HMD.out.symm
        simp only [Bool.or_eq_false_iff, decide_eq_false_iff_not] at this
        omega
      obtain ⟨d1, d2, d3⟩ := hd
      obtain ⟨mx, hmx⟩ : ∃ mx : Int, (if (if z1 < z2 then (z2 : Int) else (z1 : Int)) < (z3 : Int) then (z3 : Int) else if z1 < z2 then (z2 : Int) else (z1 : Int)) = mx := ⟨_, rfl⟩
      have hm16 : mx ≤ 16 := by rw [← hmx]; split <;> split <;> omega
      cases RN with
      | true =>
        have HR : Hid (E = 7) := HE1.out.trans (HRANGE.out rfl rfl rfl)
        have hd : n4 < 1 ∨ 64000 < n4 ∨ n5 < 1 ∨ 1048576 < n5 := by
          have := HRD.out.symm
          simp only [Bool.or_eq_true, decide_eq_true_eq] at this
          exact this
        clear HIMG HMANY HRANGE HALL HMD HRD
        have HW1 := Lib.hid (fun W => within_any n4 64000 W)
        have HW2 := Lib.hid (fun W => within_any n5 1048576 W)
        by_cases hw : 1 ≤ n4 ∧ n4 ≤ 64000
        · rw [decide_eq_true hw.1, decide_eq_true hw.2] at HW1
          have hw3 : (decide (1 ≤ n5) && decide (n5 ≤ 1048576)) = false := by
            rw [Bool.eq_false_iff]; intro e
            simp only [Bool.and_eq_true, decide_eq_true_eq] at e
            omega
          rw [hw3] at HW2
          clear hw hw3 hd
          go_wp2_with (fail)
          all_goals try (exfalso; omega)
          refine (HIM.out _).mono ?_
          rintro e w' ⟨rfl, rfl⟩
          go_wp2_with (fail)
          all_goals try (exfalso; omega)
          refine (HW1.out _).mono ?_
          rintro e w' ⟨rfl, rfl⟩
          go_wp2_with (fail)
          all_goals try (exfalso; omega)
          refine (HW2.out _).mono ?_
          rintro e w' ⟨rfl, rfl⟩
          go_wp2
          all_goals try (exfalso; omega)
          go_ret
          exact ⟨ret_int HR.out.symm, fun e => absurd (HR.out.symm.trans e) (by decide), HF5.out⟩
        · have hw3 : (decide (1 ≤ n4) && decide (n4 ≤ 64000)) = false := by
            rw [Bool.eq_false_iff]; intro e
            simp only [Bool.and_eq_true, decide_eq_true_eq] at e
            exact hw e
          rw [hw3] at HW1
          clear hw hw3 hd HW2
          go_wp2_with (fail)
          all_goals try (exfalso; omega)
          refine (HIM.out _).mono ?_
          rintro e w' ⟨rfl, rfl⟩
          go_wp2_with (fail)
          all_goals try (exfalso; omega)
          refine (HW1.out _).mono ?_
          rintro e w' ⟨rfl, rfl⟩
          go_wp2
          all_goals try (exfalso; omega)
          go_ret
          exact ⟨ret_int HR.out.symm, fun e => absurd (HR.out.symm.trans e) (by decide), HF5.out⟩
      | false =>
        have hd : 1 ≤ n4 ∧ n4 ≤ 64000 ∧ 1 ≤ n5 ∧ n5 ≤ 1048576 := by
          have := HRD.out.symm
          simp only [Bool.or_eq_false_iff, decide_eq_false_iff_not] at this
          omega
        have HE2 : Hid (E = if CE = 0 then (if PE = 0 then EE else PE) else CE) := HE1.out.trans (HALL.out rfl rfl rfl)
        have HW1 := Lib.hid (fun W => within_any n4 64000 W)
        have HW2 := Lib.hid (fun W => within_any n5 1048576 W)
        rw [decide_eq_true hd.1, decide_eq_true hd.2.1] at HW1
        rw [decide_eq_true hd.2.2.1, decide_eq_true hd.2.2.2] at HW2
        clear hd HIMG HMANY HRANGE HALL HMD HRD HE1
        go_wp2_with (fail)
        all_goals try (exfalso; omega)
        refine (HIM.out _).mono ?_
        rintro e w' ⟨rfl, rfl⟩
        go_wp2_with (fail)
        all_goals try (exfalso; omega)
        refine (HW1.out _).mono ?_
        rintro e w' ⟨rfl, rfl⟩
        go_wp2_with (fail)
        all_goals try (exfalso; omega)
        refine (HW2.out _).mono ?_
        rintro e w' ⟨rfl, rfl⟩
        go_wp2_with (fail)
        all_goals try (exfalso; omega)
        refine (HCM.out _ HF5.out).mono ?_
        rintro e V1 ⟨rfl, hf⟩
        have HF6 := Lib.hid (HF5.out.trans hf)
        have HB6 := Lib.hid (hf.at HB5.out)
        have HS7 := Lib.hid (HS6.out.fresh hf)
        clear hf c1 c2 c3 c4 c5 c6 HB5 HS6
        by_cases hce : CE = 0
        case neg =>
          have HR : Hid (E = CE) := by rw [Hid, HE2.out, if_neg hce]
          have e0 : (CE == 0) = false := by rw [beq_eq_false_iff_ne]; exact hce
          have e1 : (CE != 0) = true := by simp [hce]
          have HR3 := Lib.hid hce
          clear hce HE2
          go_wp2
          all_goals try (exfalso; omega)
          go_ret
          exact ⟨ret_int HR.out.symm, fun e => absurd (HR.out.symm.trans e) HR3.out, HF6.out⟩
        have HE3 : Hid (E = if PE = 0 then EE else PE) := by rw [Hid, HE2.out, if_pos hce]
        subst hce
        clear HE2
        obtain ⟨⟨c0, c1, c2, c3, c4, c5, c6⟩, _⟩ := Box7.cells (show Box7 53 V1 z s0 s1 (.slice ca z1 cc) (.slice pa z2 pc) n4 n5 (.slice ea z3 ec) from HB6.out)
        clear c0 c1 c2 c4 c5
        go_wp2_with (fail)
        refine (HPO.out _ HF6.out).mono ?_
        rintro e V2 ⟨rfl, hf⟩
        have HF7 := Lib.hid (HF6.out.trans hf)
        have HB7 := Lib.hid (hf.at HB6.out)
        have HS8 := Lib.hid (HS7.out.fresh hf)
        clear hf c3 c6 HB6 HS7
        by_cases hpe : PE = 0
        case neg =>
          have HR : Hid (E = PE) := by rw [Hid, HE3.out, if_neg hpe]
          have e0 : (PE == 0) = false := by rw [beq_eq_false_iff_ne]; exact hpe
          have e1 : (PE != 0) = true := by simp [hpe]
          have HR3 := Lib.hid hpe
          clear hpe HE3
          go_wp2
          all_goals try (exfalso; omega)
          go_ret
          exact ⟨ret_int HR.out.symm, fun e => absurd (HR.out.symm.trans e) HR3.out, HF7.out⟩
        have HR : Hid (E = EE) := by rw [Hid, HE3.out, if_pos hpe]
        subst hpe
        clear HE3
        obtain ⟨⟨c0, c1, c2, c3, c4, c5, c6⟩, _⟩ := Box7.cells (show Box7 53 V2 z s0 s1 (.slice ca z1 cc) (.slice pa z2 pc) n4 n5 (.slice ea z3 ec) from HB7.out)
        clear c0 c1 c2 c3 c4 c5
        go_wp2_with (fail)
        refine (HEN.out _ HF7.out).mono ?_
        rintro e V3 ⟨rfl, hf⟩
        have HF8 := Lib.hid (HF7.out.trans hf)
        have HS9 := Lib.hid (HS8.out.fresh hf)
        clear hf c6
        go_wp2
        go_ret
        exact ⟨ret_int HR.out.symm, fun _ => HS9.out, HF8.out⟩
end Go.Proofs.YtfhhmajkacjbgaaDoor
