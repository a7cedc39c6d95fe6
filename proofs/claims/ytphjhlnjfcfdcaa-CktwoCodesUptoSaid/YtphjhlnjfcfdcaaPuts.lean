/-
  What each function of package pack that puts, and each of the document's answers for it, returns: for every number; texts as their theorems say.
-/
import Derived.Test.YtphjhlnjfcfdcaaRows
import Derived.Test.YtphjhlnjfcfdcaaMath
import Derived.Test.YtphjhlnjfcfdcaaDBase
import Derived.WalkKit
import Derived.ProofKit
import Derived.OpenShut
import Derived.ShutString
import Derived.WalkSpells
import Derived.WalkLawsBesides
import Derived.Deep.OwnRows
import Derived.Laws.IdiomStrings
import Derived.LoopTactic
import Derived.Lib.Hide
import Derived.Below
namespace Go.Proofs.Ytphjhlnjfcfdcaa
open Go.ChangeShapes Go.WideShapes Go.ChangeAt Go.RowKit

theorem may_any (n : Int) (w : World) : Calls Try.prog 72 #[.int .i64 n] w fun e w' => e = .returned (.bool (okN n)) ∧ w = w' := by
  by_cases h : okN n = true
  · rcases okN_cases h with rfl | rfl | rfl | rfl
    all_goals
      clear h
      go_enter Try.func72, Try.ntmps72
      go_wp2
      go_ret
      exact ⟨rfl, rfl⟩
  · have h' : okN n = false := by simpa using h
    obtain ⟨h1, h2, h4, h8⟩ := okN_not h'
    have e1 : (n == 1) = false := by simpa using h1
    have e2 : (n == 2) = false := by simpa using h2
    have e4 : (n == 4) = false := by simpa using h4
    have e8 : (n == 8) = false := by simpa using h8
    clear h h' h1 h2 h4 h8
    go_enter Try.func72, Try.ntmps72
    go_wp2
    go_ret
    exact ⟨by simp [okN, e1, e2, e4, e8], rfl⟩
theorem may_yes (n : Int) (w : World) (h : okN n = true) : Calls Try.prog 72 #[.int .i64 n] w fun e w' => e = .returned (.bool true) ∧ w = w' := by
  rw [← h]; exact may_any n w
theorem may_no (n : Int) (w : World) (h : okN n = false) : Calls Try.prog 72 #[.int .i64 n] w fun e w' => e = .returned (.bool false) ∧ w = w' := by
  rw [← h]; exact may_any n w

/-- 'string(b)' of a row that holds the bytes of beS. -/
theorem conv_row (w : World) (n v : Nat) : (convert 69 9 (.slice (some ⟨w.heap.size, 0, none⟩) n n)).run Try.prog (w.alloc (.cells (cellsAt n n v) 5)) = .ok (.string (beS n v)) (w.alloc (.cells (cellsAt n n v) 5)) := by
  have h := run_convert_bytes_back (P := Try.prog) (w.alloc (.cells (cellsAt n n v) 5)) 69 9 5 ⟨w.heap.size, 0, none⟩ n (be n v) Try.underlying69 Try.underlying5 Try.underlying9 (fun j hj => by
    have e : (⟨w.heap.size, 0, none⟩ : Addr).add j = ⟨w.heap.size, j, none⟩ := by simp [Addr.add]; exact fun h => h.symm
    rw [e, World.cell?_alloc_at _ _ _ _ rfl]
    exact cellsAt_all n v j hj)
  rw [be_length] at h
  exact h
theorem conv_one (w : World) (c : UInt8) (x : Int) (hx : (c.toNat : Int) = x) : (convert 69 9 (.slice (some ⟨w.heap.size, 0, none⟩) 1 1)).run Try.prog (w.alloc (.cells #[.int .u8 x] 5)) = .ok (.string ⟨#[c]⟩) (w.alloc (.cells #[.int .u8 x] 5)) := by
  subst hx
  exact run_convert_bytes_back (P := Try.prog) (w.alloc (.cells #[.int .u8 (c.toNat : Int)] 5)) 69 9 5 ⟨w.heap.size, 0, none⟩ 1 [c] Try.underlying69 Try.underlying5 Try.underlying9 (fun j hj => by
    have e : (⟨w.heap.size, 0, none⟩ : Addr).add j = ⟨w.heap.size, j, none⟩ := by simp [Addr.add]; exact fun h => h.symm
    rw [e, World.cell?_alloc_at _ _ _ _ rfl]
    simp at hj
    subst hj
    rfl)

/-! ### pack.Put and the document's Put -/
theorem put_no (n v : Int) (w : World) (h : okN n = false) : Calls Try.prog 38 #[.int .i64 n, .int .u64 v] w fun e w' => e = .returned (.string ⟨#[]⟩) ∧ Fresh w w' := by
  have H := Lib.hid h; clear h
  go_enter Try.func38, Try.ntmps38
  go_wp2_with (go_at_call 72; refine (may_no _ _ H.out).mono ?_; rintro e w' ⟨rfl, rfl⟩)
  go_ret
  exact ⟨rfl, Fresh.refl _⟩

set_option maxRecDepth 100000 in
set_option maxHeartbeats 400000 in
theorem put_nat (n : Nat) (v : Int) (w : World) (h : okN n = true) (h0 : 0 ≤ v) (_h1 : v < 18446744073709551616) (_hn : 1 ≤ n) (hn8 : n ≤ 8) :
    Calls Try.prog 38 #[.int .i64 n, .int .u64 v] w fun e w' => e = .returned (.string (beS n v.toNat)) ∧ Fresh w w' := by
  have H := Lib.hid h; clear h
  have hmk := fun w => run_make_row' (P := Try.prog) 69 5 (.int .u8 0) 1 Try.underlying69 info5 rfl .i64 .i64 n (by omega) (by omega) w
  go_enter Try.func38, Try.ntmps38
  go_wp2_with (go_at_call 72; refine (may_yes _ _ H.out).mono ?_; rintro e w' ⟨rfl, rfl⟩)
  go_loopw [13] (fun i wr => ∃ k : Nat, k ≤ n ∧ i = .int .i64 k ∧ wr = w.alloc (.cells (cellsAt n k v.toNat) 5)) (fun i _ => n - (intOf i).toNat)
  case atStart => exact ⟨0, Nat.zero_le _, rfl, by rw [cellsAt_made n v.toNat]⟩
  case round =>
    obtain ⟨k, hk, rfl, rfl⟩ := hrel
    by_cases hlt : k < n
    · have hc := cellsAt_get n k v.toNat hlt
      go_wp2
      exact ⟨⟨k + 1, hlt, by go_num, by rw [cellsAt_set n k v h0 hlt]⟩, by simp [intOf]; omega⟩
    · obtain rfl : k = n := by omega
      have hcv := conv_row w k v.toNat
      go_wp2
      go_ret
      exact ⟨rfl, (Fresh.refl _).alloc _⟩
theorem put_yes (n v : Int) (w : World) (h : okN n = true) (h0 : 0 ≤ v) (h1 : v < 18446744073709551616) :
    Calls Try.prog 38 #[.int .i64 n, .int .u64 v] w fun e w' => e = .returned (.string (beS n.toNat v.toNat)) ∧ Fresh w w' := by
  obtain ⟨m, rfl⟩ : ∃ m : Nat, n = m := ⟨n.toNat, by rcases okN_cases h with rfl | rfl | rfl | rfl <;> rfl⟩
  have := okN_cases h
  exact put_nat m v w h h0 h1 (by omega) (by omega)

theorem rput_no (n v : Int) (w : World) (h : okN n = false) : Calls Try.prog 42 #[.int .i64 n, .int .u64 v] w fun e w' => e = .returned (.string ⟨#[]⟩) ∧ Fresh w w' := by
  obtain ⟨h1, h2, h4, h8⟩ := okN_not h
  have e1 : (n != 1) = true := by simpa using h1
  have e2 : (n != 2) = true := by simpa using h2
  have e4 : (n != 4) = true := by simpa using h4
  have e8 : (n != 8) = true := by simpa using h8
  clear h h1 h2 h4 h8
  go_enter Try.func42, Try.ntmps42
  go_wp2
  go_ret
  exact ⟨rfl, Fresh.refl _⟩
set_option maxRecDepth 100000 in
set_option maxHeartbeats 400000 in
theorem rput_1 (v : Int) (w : World) (h0 : 0 ≤ v) (h1 : v < 18446744073709551616) :
    Calls Try.prog 42 #[.int .i64 1, .int .u64 v] w fun e w' => e = .returned (.string (beS 1 v.toNat)) ∧ Fresh w w' := by
  go_enter Try.func42, Try.ntmps42
  go_wp2
  go_loopw [1, 5, 6] (fun x s i wr => ∃ k : Nat, k ≤ 1 ∧ i = .int .i64 k ∧ x = .int .u64 (qu v k) ∧ s = .string (beS k v.toNat) ∧ Fresh w wr) (fun _ _ i _ => 1 - (intOf i).toNat)
  case atStart => exact ⟨0, Nat.zero_le _, rfl, by rw [qu_zero v h0], rfl, Fresh.refl _⟩
  case round =>
    obtain ⟨k, hk, rfl, rfl, rfl, hg⟩ := hrel
    have hq := qu_bd v k h0 h1
    have hadd : ∀ W : World, (Op.stringOp .add ⟨#[dig v.toNat k]⟩ (beS k v.toNat)).run Try.prog W = .ok (.string (beS (k + 1) v.toNat)) W := fun W => by
      rw [run_string_add_sum W _ _ (by rw [beS_size]; show 1 + k ≤ _; omega), beS_succ]
    have hcv := conv_one wr (dig v.toNat k) (qu v k % 256) (qu_dig v k)
    by_cases hlt : k < 1
    · go_wp2
      exact ⟨⟨k + 1, by omega, by go_num, by rw [qu_succ], rfl, hg.alloc _⟩, by simp [intOf]; omega⟩
    · obtain rfl : k = 1 := by omega
      go_wp2
      go_ret
      exact ⟨rfl, hg⟩
set_option maxRecDepth 100000 in
set_option maxHeartbeats 400000 in
theorem rput_2 (v : Int) (w : World) (h0 : 0 ≤ v) (h1 : v < 18446744073709551616) :
    Calls Try.prog 42 #[.int .i64 2, .int .u64 v] w fun e w' => e = .returned (.string (beS 2 v.toNat)) ∧ Fresh w w' := by
  go_enter Try.func42, Try.ntmps42
  go_wp2
  go_loopw [1, 5, 6] (fun x s i wr => ∃ k : Nat, k ≤ 2 ∧ i = .int .i64 k ∧ x = .int .u64 (qu v k) ∧ s = .string (beS k v.toNat) ∧ Fresh w wr) (fun _ _ i _ => 2 - (intOf i).toNat)
  case atStart => exact ⟨0, Nat.zero_le _, rfl, by rw [qu_zero v h0], rfl, Fresh.refl _⟩
  case round =>
    obtain ⟨k, hk, rfl, rfl, rfl, hg⟩ := hrel
    have hq := qu_bd v k h0 h1
    have hadd : ∀ W : World, (Op.stringOp .add ⟨#[dig v.toNat k]⟩ (beS k v.toNat)).run Try.prog W = .ok (.string (beS (k + 1) v.toNat)) W := fun W => by
      rw [run_string_add_sum W _ _ (by rw [beS_size]; show 1 + k ≤ _; omega), beS_succ]
    have hcv := conv_one wr (dig v.toNat k) (qu v k % 256) (qu_dig v k)
    by_cases hlt : k < 2
    · go_wp2
      exact ⟨⟨k + 1, by omega, by go_num, by rw [qu_succ], rfl, hg.alloc _⟩, by simp [intOf]; omega⟩
    · obtain rfl : k = 2 := by omega
      go_wp2
      go_ret
      exact ⟨rfl, hg⟩
set_option maxRecDepth 100000 in
set_option maxHeartbeats 400000 in
theorem rput_4 (v : Int) (w : World) (h0 : 0 ≤ v) (h1 : v < 18446744073709551616) :
    Calls Try.prog 42 #[.int .i64 4, .int .u64 v] w fun e w' => e = .returned (.string (beS 4 v.toNat)) ∧ Fresh w w' := by
  go_enter Try.func42, Try.ntmps42
  go_wp2
  go_loopw [1, 5, 6] (fun x s i wr => ∃ k : Nat, k ≤ 4 ∧ i = .int .i64 k ∧ x = .int .u64 (qu v k) ∧ s = .string (beS k v.toNat) ∧ Fresh w wr) (fun _ _ i _ => 4 - (intOf i).toNat)
  case atStart => exact ⟨0, Nat.zero_le _, rfl, by rw [qu_zero v h0], rfl, Fresh.refl _⟩
  case round =>
    obtain ⟨k, hk, rfl, rfl, rfl, hg⟩ := hrel
    have hq := qu_bd v k h0 h1
    have hadd : ∀ W : World, (Op.stringOp .add ⟨#[dig v.toNat k]⟩ (beS k v.toNat)).run Try.prog W = .ok (.string (beS (k + 1) v.toNat)) W := fun W => by
      rw [run_string_add_sum W _ _ (by rw [beS_size]; show 1 + k ≤ _; omega), beS_succ]
    have hcv := conv_one wr (dig v.toNat k) (qu v k % 256) (qu_dig v k)
    by_cases hlt : k < 4
    · go_wp2
      exact ⟨⟨k + 1, by omega, by go_num, by rw [qu_succ], rfl, hg.alloc _⟩, by simp [intOf]; omega⟩
    · obtain rfl : k = 4 := by omega
      go_wp2
      go_ret
      exact ⟨rfl, hg⟩
set_option maxRecDepth 100000 in
set_option maxHeartbeats 400000 in
theorem rput_8 (v : Int) (w : World) (h0 : 0 ≤ v) (h1 : v < 18446744073709551616) :
    Calls Try.prog 42 #[.int .i64 8, .int .u64 v] w fun e w' => e = .returned (.string (beS 8 v.toNat)) ∧ Fresh w w' := by
  go_enter Try.func42, Try.ntmps42
  go_wp2
  go_loopw [1, 5, 6] (fun x s i wr => ∃ k : Nat, k ≤ 8 ∧ i = .int .i64 k ∧ x = .int .u64 (qu v k) ∧ s = .string (beS k v.toNat) ∧ Fresh w wr) (fun _ _ i _ => 8 - (intOf i).toNat)
  case atStart => exact ⟨0, Nat.zero_le _, rfl, by rw [qu_zero v h0], rfl, Fresh.refl _⟩
  case round =>
    obtain ⟨k, hk, rfl, rfl, rfl, hg⟩ := hrel
    have hq := qu_bd v k h0 h1
    have hadd : ∀ W : World, (Op.stringOp .add ⟨#[dig v.toNat k]⟩ (beS k v.toNat)).run Try.prog W = .ok (.string (beS (k + 1) v.toNat)) W := fun W => by
      rw [run_string_add_sum W _ _ (by rw [beS_size]; show 1 + k ≤ _; omega), beS_succ]
    have hcv := conv_one wr (dig v.toNat k) (qu v k % 256) (qu_dig v k)
    by_cases hlt : k < 8
    · go_wp2
      exact ⟨⟨k + 1, by omega, by go_num, by rw [qu_succ], rfl, hg.alloc _⟩, by simp [intOf]; omega⟩
    · obtain rfl : k = 8 := by omega
      go_wp2
      go_ret
      exact ⟨rfl, hg⟩
theorem rput_yes (n v : Int) (w : World) (h : okN n = true) (h0 : 0 ≤ v) (h1 : v < 18446744073709551616) :
    Calls Try.prog 42 #[.int .i64 n, .int .u64 v] w fun e w' => e = .returned (.string (beS n.toNat v.toNat)) ∧ Fresh w w' := by
  rcases okN_cases h with rfl | rfl | rfl | rfl
  · exact rput_1 v w h0 h1
  · exact rput_2 v w h0 h1
  · exact rput_4 v w h0 h1
  · exact rput_8 v w h0 h1
theorem wrap_u64 (v : Int) : 0 ≤ IntKind.u64.wrap v ∧ IntKind.u64.wrap v < 18446744073709551616 := by
  simp [IntKind.wrap, IntKind.signed, IntKind.bits]; omega
theorem wrap_back (v : Int) (h0 : 0 ≤ v) (h1 : v < 18446744073709551616) : IntKind.u64.wrap (wrap64 v) = v := by
  simp [IntKind.wrap, IntKind.signed, IntKind.bits, wrap64]; omega
def flagS (b : Bool) : ByteArray := beS 1 b.toNat
theorem beS_flag : flagS false = ⟨#[0]⟩ ∧ flagS true = ⟨#[1]⟩ := ⟨by decide +kernel, by decide +kernel⟩

/-! ### pack.Int, Flag, Text, and the document's -/
theorem text_long (s : ByteArray) (w : World) (hs : s.size ≤ maxLen) (h : 4096 < s.size) : Calls Try.prog 61 #[.string s] w fun e w' => e = .returned (.tuple #[.string ⟨#[]⟩, .int .i64 2]) ∧ Fresh w w' := by
  unfold maxLen at hs
  go_enter Try.func61, Try.ntmps61
  go_wp2
  go_ret2
  exact ⟨rfl, Fresh.refl _⟩
theorem text_ok (s : ByteArray) (w : World) (h : s.size ≤ 4096) : Calls Try.prog 61 #[.string s] w fun e w' => e = .returned (.tuple #[.string (beS 2 s.size ++ s), .int .i64 0]) ∧ Fresh w w' := by
  have hadd : ∀ W : World, (Op.stringOp .add (beS 2 s.size) s).run Try.prog W = .ok (.string (beS 2 s.size ++ s)) W := fun W => by
    rw [run_string_add_sum W _ _ (by rw [beS_size]; omega)]
  go_enter Try.func61, Try.ntmps61
  go_wp2_with fail
  refine (put_yes _ _ _ (by decide) (by omega) (by omega)).mono ?_
  rintro e w' ⟨rfl, hg⟩
  go_wp2
  go_ret2
  exact ⟨rfl, hg⟩
theorem rtext_ok (s : ByteArray) (w : World) (h : s.size ≤ 4096) : Calls Try.prog 43 #[.string s] w fun e w' => e = .returned (.string (beS 2 s.size ++ s)) ∧ Fresh w w' := by
  have hadd : ∀ W : World, (Op.stringOp .add (beS 2 s.size) s).run Try.prog W = .ok (.string (beS 2 s.size ++ s)) W := fun W => by
    rw [run_string_add_sum W _ _ (by rw [beS_size]; omega)]
  go_enter Try.func43, Try.ntmps43
  go_wp2_with fail
  refine (rput_yes _ _ _ (by decide) (by omega) (by omega)).mono ?_
  rintro e w' ⟨rfl, hg⟩
  go_wp2
  go_ret
  exact ⟨rfl, hg⟩

/-! ### the document's example -/
theorem awake_put : beS 2 258 = ⟨#[1, 2]⟩ := by decide +kernel
theorem awake_text : beS 2 1 ++ ⟨#[97]⟩ = ⟨#[0, 1, 97]⟩ := by decide +kernel
theorem text_a (w : World) : Calls Try.prog 61 #[.string ⟨#[97]⟩] w fun e w' => e = .returned (.tuple #[.string ⟨#[0, 1, 97]⟩, .int .i64 0]) ∧ Fresh w w' := by
  have h := text_ok ⟨#[97]⟩ w (by decide)
  rw [show (ByteArray.mk #[97]).size = 1 from rfl, awake_text] at h
  exact h
theorem put_258 (w : World) : Calls Try.prog 38 #[.int .i64 2, .int .u64 258] w fun e w' => e = .returned (.string ⟨#[1, 2]⟩) ∧ Fresh w w' := by
  have h := put_yes 2 258 w (by decide) (by omega) (by omega)
  rw [show (2 : Int).toNat = 2 from rfl, show (258 : Int).toNat = 258 from rfl, awake_put] at h
  exact h
theorem awake_true (w : World) : Calls Try.prog 33 #[] w fun e w' => e = .returned (.bool true) ∧ Fresh w w' := by
  go_enter Try.func33, Try.ntmps33
  go_wp2_with fail
  refine (text_a _).mono ?_
  rintro e w1 ⟨rfl, hg1⟩
  go_wp2_with fail
  refine (put_258 _).mono ?_
  rintro e w2 ⟨rfl, hg2⟩
  go_wp2
  go_ret
  exact ⟨rfl, hg1.trans hg2⟩
end Go.Proofs.Ytphjhlnjfcfdcaa
