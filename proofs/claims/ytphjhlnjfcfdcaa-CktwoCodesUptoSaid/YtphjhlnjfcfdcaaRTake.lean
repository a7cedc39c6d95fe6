/-
  What the document's own answers for a Taker (package bosunref02) come to: for every Taker whose text is of a length that Go allows; nothing that was there turns.
-/
import Derived.Test.YtphjhlnjfcfdcaaRows
import Derived.Test.YtphjhlnjfcfdcaaTakes
import Derived.StillTailTactics
import Derived.Deep.RegionWith
import Derived.RegionTactic
namespace Go.Proofs.Ytphjhlnjfcfdcaa
open Go.ChangeShapes Go.WideShapes Go.ChangeAt Go.RowKit
set_option maxRecDepth 100000
theorem number_any (s : ByteArray) (w : World) (hs : s.size ≤ 8) : Calls Try.prog 76 #[.string s] w fun r w' => r = .returned (.int .u64 (numB s.data.toList)) ∧ w = w' := by
  go_enter Try.func76, Try.ntmps76
  go_wp2
  go_loop [3, 4] (fun x i => ∃ k : Nat, k ≤ s.size ∧ i = .int .i64 k ∧ x = .int .u64 (numB (s.data.toList.take k))) (fun _ i => s.size - (intOf i).toNat)
  case atStart => exact ⟨0, Nat.zero_le _, rfl, rfl⟩
  case round =>
    obtain ⟨k, hk, rfl, rfl⟩ := hrel
    have hb := numB_lt (s.data.toList.take k)
    have hl : (s.data.toList.take k).length ≤ k := List.length_take_le _ _
    by_cases hlt : k < s.size
    · have hp := pow_le8 (s.data.toList.take k).length (by omega)
      have hx : numB (s.data.toList.take k) < 72057594037927936 := by omega
      have HS : Hid (numB (s.data.toList.take (k + 1)) = numB (s.data.toList.take k) * 256 + s[k].toNat) := by rw [take_snoc s k hlt, numB_snoc]; exact rfl
      clear hb hl hp
      have hc := s[k].toNat_lt
      generalize numB (s.data.toList.take k) = x at hx HS ⊢
      go_wp2
      exact ⟨⟨k + 1, by omega, by go_num, by rw [HS.out]; go_num⟩, by simp [intOf]; omega⟩
    · obtain rfl : k = s.size := by omega
      clear hb hl
      have HT : Hid (s.data.toList.take s.size = s.data.toList) := by
        rw [List.take_of_length_le (by rw [← Lib.size_eq]; exact Nat.le_refl _)]; exact rfl
      go_wp2
      go_ret
      exact ⟨by rw [HT.out]; rfl, rfl⟩

theorem rtake_err (s : ByteArray) (e n : Int) (w : World) (he : e ≠ 0) :
    Calls Try.prog 50 #[.agg #[.string s, .int .i64 e], .int .i64 n] w fun r w' => r = .returned (.tuple #[.agg #[.string s, .int .i64 e], .int .u64 0]) ∧ Fresh w w' := by
  have hne : (e != 0) = true := by simpa using he
  clear he
  go_enter Try.func50, Try.ntmps50
  go_wp2
  exact bodyPost_ret (v := .tuple #[.agg #[.string s, .int .i64 e], .int .u64 0]) (by simp [results, Try.results50, go_sem]) rfl ⟨rfl, ((Fresh.refl _).alloc _).alloc _⟩
theorem rtake_no (s : ByteArray) (n : Int) (w : World) (hn : okN n = false) :
    Calls Try.prog 50 #[.agg #[.string s, .int .i64 0], .int .i64 n] w fun r w' => r = .returned (.tuple #[.agg #[.string s, .int .i64 7], .int .u64 0]) ∧ Fresh w w' := by
  obtain ⟨h1, h2, h4, h8⟩ := okN_not hn
  have e1 : (n != 1) = true := by simpa using h1
  have e2 : (n != 2) = true := by simpa using h2
  have e4 : (n != 4) = true := by simpa using h4
  have e8 : (n != 8) = true := by simpa using h8
  clear hn h1 h2 h4 h8
  go_enter Try.func50, Try.ntmps50
  go_wp2
  exact bodyPost_ret (v := .tuple #[.agg #[.string s, .int .i64 7], .int .u64 0]) (by simp [results, Try.results50, go_sem]) rfl ⟨rfl, ((Fresh.refl _).alloc _).alloc _⟩
theorem rtake_short (s : ByteArray) (n : Int) (w : World) (hs : s.size ≤ maxLen) (hn : okN n = true) (hsz : s.size < n.toNat) :
    Calls Try.prog 50 #[.agg #[.string s, .int .i64 0], .int .i64 n] w fun r w' => r = .returned (.tuple #[.agg #[.string s, .int .i64 1], .int .u64 0]) ∧ Fresh w w' := by
  unfold maxLen at hs
  rcases okN_cases hn with rfl | rfl | rfl | rfl
  · have hz : s.size < 1 := hsz
    clear hn hsz
    go_enter Try.func50, Try.ntmps50
    go_wp2
    exact bodyPost_ret (v := .tuple #[.agg #[.string s, .int .i64 1], .int .u64 0]) (by simp [results, Try.results50, go_sem]) rfl ⟨rfl, ((Fresh.refl _).alloc _).alloc _⟩
  · have hz : s.size < 2 := hsz
    clear hn hsz
    go_enter Try.func50, Try.ntmps50
    go_wp2
    exact bodyPost_ret (v := .tuple #[.agg #[.string s, .int .i64 1], .int .u64 0]) (by simp [results, Try.results50, go_sem]) rfl ⟨rfl, ((Fresh.refl _).alloc _).alloc _⟩
  · have hz : s.size < 4 := hsz
    clear hn hsz
    go_enter Try.func50, Try.ntmps50
    go_wp2
    exact bodyPost_ret (v := .tuple #[.agg #[.string s, .int .i64 1], .int .u64 0]) (by simp [results, Try.results50, go_sem]) rfl ⟨rfl, ((Fresh.refl _).alloc _).alloc _⟩
  · have hz : s.size < 8 := hsz
    clear hn hsz
    go_enter Try.func50, Try.ntmps50
    go_wp2
    exact bodyPost_ret (v := .tuple #[.agg #[.string s, .int .i64 1], .int .u64 0]) (by simp [results, Try.results50, go_sem]) rfl ⟨rfl, ((Fresh.refl _).alloc _).alloc _⟩
set_option maxHeartbeats 1000000 in
theorem rtake_1 (s : ByteArray) (w : World) (hs : s.size ≤ maxLen) (hsz : 1 ≤ s.size) :
    Calls Try.prog 50 #[.agg #[.string s, .int .i64 0], .int .i64 1] w fun r w' => r = .returned (.tuple #[.agg #[.string (s.extract 1 s.size), .int .i64 0], .int .u64 (numB (s.data.toList.take 1))]) ∧ Fresh w w' := by
  unfold maxLen at hs
  have hd : decide ((s.size : Int) < 1) = false := by simp; omega
  have hex : (s.extract 0 1).size ≤ 8 := by simp [ByteArray.size_extract]; omega
  go_enter Try.func50, Try.ntmps50
  go_wp2
  go_region_with (go_at_call 76; refine (number_any _ _ hex).mono ?_; rintro e w' ⟨rfl, rfl⟩)
  all_goals
    go_wp2
    exact bodyPost_ret (v := .tuple #[.agg #[.string (s.extract 1 s.size), .int .i64 0], .int .u64 (numB (s.data.toList.take 1))]) (by simp [results, Try.results50, go_sem]) rfl ⟨rfl, (((Fresh.refl _).alloc _).alloc _).drew⟩
set_option maxHeartbeats 1000000 in
theorem rtake_2 (s : ByteArray) (w : World) (hs : s.size ≤ maxLen) (hsz : 2 ≤ s.size) :
    Calls Try.prog 50 #[.agg #[.string s, .int .i64 0], .int .i64 2] w fun r w' => r = .returned (.tuple #[.agg #[.string (s.extract 2 s.size), .int .i64 0], .int .u64 (numB (s.data.toList.take 2))]) ∧ Fresh w w' := by
  unfold maxLen at hs
  have hd : decide ((s.size : Int) < 2) = false := by simp; omega
  have hex : (s.extract 0 2).size ≤ 8 := by simp [ByteArray.size_extract]; omega
  go_enter Try.func50, Try.ntmps50
  go_wp2
  go_region_with (go_at_call 76; refine (number_any _ _ hex).mono ?_; rintro e w' ⟨rfl, rfl⟩)
  all_goals
    go_wp2
    exact bodyPost_ret (v := .tuple #[.agg #[.string (s.extract 2 s.size), .int .i64 0], .int .u64 (numB (s.data.toList.take 2))]) (by simp [results, Try.results50, go_sem]) rfl ⟨rfl, (((Fresh.refl _).alloc _).alloc _).drew⟩
set_option maxHeartbeats 1000000 in
theorem rtake_4 (s : ByteArray) (w : World) (hs : s.size ≤ maxLen) (hsz : 4 ≤ s.size) :
    Calls Try.prog 50 #[.agg #[.string s, .int .i64 0], .int .i64 4] w fun r w' => r = .returned (.tuple #[.agg #[.string (s.extract 4 s.size), .int .i64 0], .int .u64 (numB (s.data.toList.take 4))]) ∧ Fresh w w' := by
  unfold maxLen at hs
  have hd : decide ((s.size : Int) < 4) = false := by simp; omega
  have hex : (s.extract 0 4).size ≤ 8 := by simp [ByteArray.size_extract]; omega
  go_enter Try.func50, Try.ntmps50
  go_wp2
  go_region_with (go_at_call 76; refine (number_any _ _ hex).mono ?_; rintro e w' ⟨rfl, rfl⟩)
  all_goals
    go_wp2
    exact bodyPost_ret (v := .tuple #[.agg #[.string (s.extract 4 s.size), .int .i64 0], .int .u64 (numB (s.data.toList.take 4))]) (by simp [results, Try.results50, go_sem]) rfl ⟨rfl, (((Fresh.refl _).alloc _).alloc _).drew⟩
set_option maxHeartbeats 1000000 in
theorem rtake_8 (s : ByteArray) (w : World) (hs : s.size ≤ maxLen) (hsz : 8 ≤ s.size) :
    Calls Try.prog 50 #[.agg #[.string s, .int .i64 0], .int .i64 8] w fun r w' => r = .returned (.tuple #[.agg #[.string (s.extract 8 s.size), .int .i64 0], .int .u64 (numB (s.data.toList.take 8))]) ∧ Fresh w w' := by
  unfold maxLen at hs
  have hd : decide ((s.size : Int) < 8) = false := by simp; omega
  have hex : (s.extract 0 8).size ≤ 8 := by simp [ByteArray.size_extract]; omega
  go_enter Try.func50, Try.ntmps50
  go_wp2
  go_region_with (go_at_call 76; refine (number_any _ _ hex).mono ?_; rintro e w' ⟨rfl, rfl⟩)
  all_goals
    go_wp2
    exact bodyPost_ret (v := .tuple #[.agg #[.string (s.extract 8 s.size), .int .i64 0], .int .u64 (numB (s.data.toList.take 8))]) (by simp [results, Try.results50, go_sem]) rfl ⟨rfl, (((Fresh.refl _).alloc _).alloc _).drew⟩
theorem rtake_any (s : ByteArray) (e n : Int) (w : World) (hs : s.size ≤ maxLen) :
    Calls Try.prog 50 #[.agg #[.string s, .int .i64 e], .int .i64 n] w fun r w' => r = .returned (.tuple #[.agg #[.string (takeT s e n).1, .int .i64 (takeT s e n).2.1], .int .u64 (takeT s e n).2.2]) ∧ Fresh w w' := by
  by_cases he : e = 0
  · subst he
    by_cases hn : okN n = true
    · by_cases hsz : s.size < n.toNat
      · rw [show takeT s 0 n = (s, 1, 0) from by simp [takeT, hn, hsz]]
        exact rtake_short s n w hs hn hsz
      · rw [show takeT s 0 n = (s.extract n.toNat s.size, 0, (numB (s.data.toList.take n.toNat) : Int)) from by simp [takeT, hn, hsz]]
        rcases okN_cases hn with rfl | rfl | rfl | rfl
        · exact rtake_1 s w hs (Nat.le_of_not_lt hsz)
        · exact rtake_2 s w hs (Nat.le_of_not_lt hsz)
        · exact rtake_4 s w hs (Nat.le_of_not_lt hsz)
        · exact rtake_8 s w hs (Nat.le_of_not_lt hsz)
    · have hn' : okN n = false := by simpa using hn
      rw [show takeT s 0 n = (s, 7, 0) from by simp [takeT, hn']]
      exact rtake_no s n w hn'
  · rw [show takeT s e n = (s, e, 0) from by simp [takeT, he]]
    exact rtake_err s e n w he
end Go.Proofs.Ytphjhlnjfcfdcaa
