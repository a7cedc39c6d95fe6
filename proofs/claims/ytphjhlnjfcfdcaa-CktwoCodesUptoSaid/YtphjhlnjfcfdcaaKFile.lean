/-
  Files' names: ckone.File, and the document's answer.
-/
import Derived.Test.YtphjhlnjfcfdcaaSBase
import Derived.BigGuardPart
namespace Go.Proofs.Ytphjhlnjfcfdcaa
open Go.ChangeShapes Go.WideShapes Go.ChangeAt Go.RowKit
theorem empty_file {s : ByteArray} (h : s.size = 0) : s = ⟨#[]⟩ := ByteArray.ext (Array.eq_empty_of_size_eq_zero h)

def inFI (n : Int) : Bool := decide (97 ≤ n ∧ n ≤ 122) || decide (48 ≤ n ∧ n ≤ 57) || n == 46 || n == 95 || n == 45 || n == 47
def fileB (s : ByteArray) : Bool := decide (1 ≤ s.size ∧ s.size ≤ 64) && s.data.toList.all fun c => inFI c.toNat
theorem fileB_size {s : ByteArray} (h : fileB s = true) : 1 ≤ s.size ∧ s.size ≤ 64 := by
  unfold fileB at h
  simp only [Bool.and_eq_true, decide_eq_true_eq] at h
  exact h.1
theorem fileB_short {s : ByteArray} (h : s.size < 1 ∨ 64 < s.size) : fileB s = false := by
  unfold fileB
  rw [decide_eq_false (by omega)]; rfl
theorem fileB_bad {s : ByteArray} {k : Nat} (hk : k < s.size) (h : inFI s[k].toNat = false) : fileB s = false := by
  cases e : fileB s with
  | false => rfl
  | true =>
    unfold fileB at e
    simp only [Bool.and_eq_true, List.all_eq_true] at e
    have := e.2 s[k] (by
      have : s[k] = s.data.toList[k]'(by simpa using hk) := rfl
      rw [this]; exact List.getElem_mem _)
    rw [h] at this; cases this
theorem fileB_good {s : ByteArray} (h1 : 1 ≤ s.size) (h2 : s.size ≤ 64) (h : ∀ j (hj : j < s.size), inFI s[j].toNat = true) : fileB s = true := by
  unfold fileB
  rw [decide_eq_true ⟨h1, h2⟩, Bool.true_and, List.all_eq_true]
  intro c hc
  obtain ⟨j, hj, rfl⟩ := List.mem_iff_getElem.1 hc
  exact h j (by simpa using hj)

theorem inf_no_cases {n : Int} (h : inFI n = false) : ¬ (97 ≤ n ∧ n ≤ 122) ∧ ¬ (48 ≤ n ∧ n ≤ 57) ∧ n ≠ 46 ∧ n ≠ 95 ∧ n ≠ 45 ∧ n ≠ 47 := by
  simp [inFI] at h; omega
theorem inf_yes_cases {n : Int} (h : inFI n = true) : (97 ≤ n ∧ n ≤ 122) ∨ (48 ≤ n ∧ n ≤ 57) ∨ n = 46 ∨ n = 95 ∨ n = 45 ∨ n = 47 := by
  simp [inFI] at h; omega
set_option maxHeartbeats 400000 in
theorem inf_yes (n : Int) (w : World) (h : inFI n = true) : Calls Try.prog 46 #[.int .u8 n] w fun e w' => e = .returned (.bool true) ∧ w = w' := by
  rcases inf_yes_cases h with ⟨a1, a2⟩ | ⟨a1, a2⟩ | rfl | rfl | rfl | rfl
  all_goals
    clear h
    go_enter Try.func46, Try.ntmps46
    go_wp2
    go_ret
    exact ⟨rfl, rfl⟩
set_option maxHeartbeats 400000 in
theorem inf_no (n : Int) (w : World) (h : inFI n = false) : Calls Try.prog 46 #[.int .u8 n] w fun e w' => e = .returned (.bool false) ∧ w = w' := by
  obtain ⟨c1, c2, c3, c4, c5, c6⟩ := inf_no_cases h
  have e3 : (n == 46) = false := by simpa using c3
  have e4 : (n == 95) = false := by simpa using c4
  have e5 : (n == 45) = false := by simpa using c5
  have e6 : (n == 47) = false := by simpa using c6
  clear h c3 c4 c5 c6
  by_cases d1 : 97 ≤ n
  · have d2 : ¬ n ≤ 122 := by omega
    have d3 : 48 ≤ n := by omega
    have d4 : ¬ n ≤ 57 := by omega
    clear c1 c2
    go_enter Try.func46, Try.ntmps46
    go_wp2
    go_ret
    exact ⟨rfl, rfl⟩
  by_cases d3 : 48 ≤ n
  · have d4 : ¬ n ≤ 57 := by omega
    clear c1 c2
    go_enter Try.func46, Try.ntmps46
    go_wp2
    go_ret
    exact ⟨rfl, rfl⟩
  · clear c1 c2
    go_enter Try.func46, Try.ntmps46
    go_wp2
    go_ret
    exact ⟨rfl, rfl⟩

def GoodF (s : ByteArray) (k : Nat) : Prop := ∀ j (hj : j < s.size), j < k → inFI s[j].toNat = true
set_option maxHeartbeats 400000 in
theorem file_any (s : ByteArray) (w : World) (hs : s.size ≤ maxLen) : Calls Try.prog 18 #[.string s] w fun e w' => e = .returned (.bool (fileB s)) ∧ w = w' := by
  unfold maxLen at hs
  by_cases h1 : s.size < 1
  · have H := Lib.hid (fileB_short (.inl h1))
    obtain rfl : s = ⟨#[]⟩ := ByteArray.ext (Array.eq_empty_of_size_eq_zero (by change s.size = 0; omega))
    clear h1 hs
    go_enter Try.func18, Try.ntmps18
    go_wp2
    go_ret
    exact ⟨by rw [H.out]; rfl, rfl⟩
  by_cases h2 : 64 < s.size
  · have H := Lib.hid (fileB_short (.inr h2))
    go_enter Try.func18, Try.ntmps18
    go_wp2
    go_ret
    exact ⟨by rw [H.out]; rfl, rfl⟩
  have h3 : 1 ≤ s.size := by omega
  have h4 : s.size ≤ 64 := by omega
  go_enter Try.func18, Try.ntmps18
  go_wp2
  go_loop [14] (fun i => ∃ k : Nat, k ≤ s.size ∧ i = .int .i64 k ∧ GoodF s k) (fun i => s.size - (intOf i).toNat)
  case atStart => exact ⟨0, Nat.zero_le _, rfl, fun j _ hj => absurd hj (Nat.not_lt_zero _)⟩
  case round =>
    obtain ⟨k, hk, rfl, hG⟩ := hrel
    by_cases hlt : k < s.size
    · cases hm : inFI s[k].toNat with
      | false =>
        have H := Lib.hid (fileB_bad hlt hm)
        have HM := Lib.hid hm
        clear hm
        go_wp2_with (go_at_call 46; refine (inf_no _ _ HM.out).mono ?_; rintro e w' ⟨rfl, rfl⟩)
        go_ret
        exact ⟨by rw [H.out]; rfl, rfl⟩
      | true =>
        have HM := Lib.hid hm
        have HG : Hid (GoodF s (k + 1)) := fun j hj hjk => by
          by_cases e : j = k
          · subst e; exact HM.out
          · exact hG j hj (by omega)
        clear hm hG
        go_wp2_with (go_at_call 46; refine (inf_yes _ _ HM.out).mono ?_; rintro e w' ⟨rfl, rfl⟩)
        go_round
        case rel => exact ⟨k + 1, by omega, by go_num, HG.out⟩
        case measure => simp [intOf]; omega
    · have H : Hid (fileB s = true) := fileB_good (by omega) (by omega) (fun j hj => hG j hj (by omega))
      clear hG
      go_wp2
      go_ret
      exact ⟨by rw [H.out]; rfl, rfl⟩
set_option maxRecDepth 100000 in
set_option maxHeartbeats 1000000 in
theorem rfile_any (s : ByteArray) (w : World) (hs : s.size ≤ maxLen) : Calls Try.prog 19 #[.string s] w fun e w' => e = .returned (.bool (fileB s)) ∧ w = w' := by
  unfold maxLen at hs
  by_cases h1 : s.size < 1
  · have H := Lib.hid (fileB_short (.inl h1))
    obtain rfl : s = ⟨#[]⟩ := empty_file (by omega)
    clear h1 hs
    go_enter Try.func19, Try.ntmps19
    go_wp2
    go_ret
    exact ⟨by rw [H.out]; rfl, rfl⟩
  by_cases h2 : 64 < s.size
  · have H := Lib.hid (fileB_short (.inr h2))
    have h3 : (64 : Int) < (s.size : Int) := by omega
    have h4 : ¬ (s.size : Int) < 1 := by omega
    clear h1 h2
    go_enter Try.func19, Try.ntmps19
    go_wp2
    all_goals try (exfalso; omega)
    go_ret
    exact ⟨by rw [H.out]; rfl, rfl⟩
  have h3 : 1 ≤ s.size := by omega
  have h4 : s.size ≤ 64 := by omega
  clear h1 h2
  have g1 : ¬ (s.size : Int) < 1 := by omega
  have g2 : ¬ (64 : Int) < (s.size : Int) := by omega
  go_enter Try.func19, Try.ntmps19
  go_wp2
  go_loop [3] (fun i => ∃ k : Nat, k ≤ s.size ∧ i = .int .i64 k ∧ GoodF s k) (fun i => s.size - (intOf i).toNat)
  case atStart => exact ⟨0, Nat.zero_le _, rfl, fun j _ hj => absurd hj (Nat.not_lt_zero _)⟩
  case round =>
    obtain ⟨k, hk, rfl, hG⟩ := hrel
    by_cases hlt : k < s.size
    · have hc : 0 ≤ (s[k].toNat : Int) ∧ (s[k].toNat : Int) ≤ 255 := by have := s[k].toNat_lt; omega
      cases hm : inFI s[k].toNat with
      | false =>
        have H := Lib.hid (fileB_bad hlt hm)
        obtain ⟨c1, c2, c3, c4, c5, c6⟩ := inf_no_cases hm
        have e3 : ((s[k].toNat : Int) == 46) = false := by simpa using c3
        have e4 : ((s[k].toNat : Int) == 95) = false := by simpa using c4
        have e5 : ((s[k].toNat : Int) == 45) = false := by simpa using c5
        have e6 : ((s[k].toNat : Int) == 47) = false := by simpa using c6
        clear hm hG c3 c4 c5 c6
        by_cases d1 : 97 ≤ (s[k].toNat : Int)
        · have d2 : ¬ (s[k].toNat : Int) ≤ 122 := by omega
          have d3 : 48 ≤ (s[k].toNat : Int) := by omega
          have d4 : ¬ (s[k].toNat : Int) ≤ 57 := by omega
          clear c1 c2
          go_wp2
          go_ret
          exact ⟨by rw [H.out]; rfl, rfl⟩
        by_cases d3 : 48 ≤ (s[k].toNat : Int)
        · have d4 : ¬ (s[k].toNat : Int) ≤ 57 := by omega
          clear c1 c2
          go_wp2
          go_ret
          exact ⟨by rw [H.out]; rfl, rfl⟩
        · clear c1 c2
          go_wp2
          go_ret
          exact ⟨by rw [H.out]; rfl, rfl⟩
      | true =>
        have HM := Lib.hid hm
        have HG : Hid (GoodF s (k + 1)) := fun j hj hjk => by
          by_cases e : j = k
          · subst e; exact HM.out
          · exact hG j hj (by omega)
        clear hG
        have hcs := inf_yes_cases hm
        clear hm
        by_cases d1 : 97 ≤ (s[k].toNat : Int)
        · have d2 : (s[k].toNat : Int) ≤ 122 := by omega
          clear hcs
          go_wp2
          go_round
          case rel => exact ⟨k + 1, by omega, by go_num, HG.out⟩
          case measure => simp [intOf]; omega
        by_cases d3 : 48 ≤ (s[k].toNat : Int)
        · by_cases d4 : (s[k].toNat : Int) ≤ 57
          · clear hcs
            go_wp2
            go_round
            case rel => exact ⟨k + 1, by omega, by go_num, HG.out⟩
            case measure => simp [intOf]; omega
          · have e3 : ((s[k].toNat : Int) == 46) = false := by simp; omega
            have e4 : ((s[k].toNat : Int) == 95) = true := by simp; omega
            clear hcs
            go_wp2
            go_round
            case rel => exact ⟨k + 1, by omega, by go_num, HG.out⟩
            case measure => simp [intOf]; omega
        · have e4 : ((s[k].toNat : Int) == 95) = false := by simp; omega
          by_cases f3 : (s[k].toNat : Int) = 46
          · have e3 : ((s[k].toNat : Int) == 46) = true := by simpa using f3
            clear hcs f3
            go_wp2
            go_round
            case rel => exact ⟨k + 1, by omega, by go_num, HG.out⟩
            case measure => simp [intOf]; omega
          · have e3 : ((s[k].toNat : Int) == 46) = false := by simpa using f3
            by_cases f5 : (s[k].toNat : Int) = 45
            · have e5 : ((s[k].toNat : Int) == 45) = true := by simpa using f5
              clear hcs f3 f5
              go_wp2
              go_round
              case rel => exact ⟨k + 1, by omega, by go_num, HG.out⟩
              case measure => simp [intOf]; omega
            · have e5 : ((s[k].toNat : Int) == 45) = false := by simpa using f5
              have e6 : ((s[k].toNat : Int) == 47) = true := by simp; omega
              clear hcs f3 f5
              go_wp2
              go_round
              case rel => exact ⟨k + 1, by omega, by go_num, HG.out⟩
              case measure => simp [intOf]; omega
    · have H : Hid (fileB s = true) := fileB_good (by omega) (by omega) (fun j hj => hG j hj (by omega))
      clear hG
      go_wp2
      go_ret
      exact ⟨by rw [H.out]; rfl, rfl⟩
end Go.Proofs.Ytphjhlnjfcfdcaa
