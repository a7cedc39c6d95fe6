/-
  bosunlaw02.PackBack returns true, for every number, whole number, yes or no, and texts: no condition.
-/
import Derived.Test.YtpnhbgidoafklaaRows
import Derived.WalkKit
import Derived.ProofKit
import Derived.OpenShut
import Derived.ShutString
import Derived.Test.YtpnhbgidoafklaaTakes
import Derived.Lib.IndexBytes
namespace Go.Proofs.Ytpnhbgidoafklaa.packBack
open Go.ChangeShapes Go.WideShapes Go.ChangeAt Go.RowKit
open Go.ChangeMaps (open_string shut_string)
set_option linter.unusedVariables false

theorem own : ownKnob Try.prog.godebug = none := by kernel_rfl

/-! ### What was put is taken: plain facts -/
theorem numB_cons (c : UInt8) (l : List UInt8) : numB (c :: l) = c.toNat * 256 ^ l.length + numB l := by
  suffices h : ∀ r : List UInt8, numB (c :: r.reverse) = c.toNat * 256 ^ r.length + numB r.reverse by
    have := h l.reverse; simpa using this
  intro r
  induction r with
  | nil => simp [numB]
  | cons d r ih =>
    have e : c :: (d :: r).reverse = (c :: r.reverse) ++ [d] := by simp
    rw [e, numB_snoc, ih, List.reverse_cons, numB_snoc, List.length_cons, Nat.pow_succ, Nat.add_mul, Nat.mul_assoc]
    omega
theorem numB_be (n v : Nat) : numB (be n v) = v % 256 ^ n := by
  induction n with
  | zero => simp [be, numB, Nat.mod_one]
  | succ n ih => rw [be, numB_cons, be_length, ih, dig_toNat, Nat.mod_pow_succ, Nat.mul_comm, Nat.add_comm]
theorem app_list (a b : ByteArray) : (a ++ b).data.toList = a.data.toList ++ b.data.toList := by
  cases a; cases b; rw [ByteArray.mk_append_mk]
theorem app_size (a b : ByteArray) : (a ++ b).size = a.size + b.size := ByteArray.size_append
theorem list_ext {a b : ByteArray} (h : a.data.toList = b.data.toList) : a = b := ByteArray.ext (Array.toList_inj.1 h)
theorem app_assoc (a b c : ByteArray) : a ++ b ++ c = a ++ (b ++ c) := list_ext (by simp only [app_list, List.append_assoc])
theorem app_drop (a b : ByteArray) (n : Nat) (h : a.size = n) : (a ++ b).extract n (a ++ b).size = b := by
  apply list_ext
  rw [Lib.extract_to_end, app_list, List.drop_append_of_le_length (by rw [← Lib.size_eq]; omega), List.drop_of_length_le (by rw [← Lib.size_eq]; omega), List.nil_append]
theorem app_take (a b : ByteArray) (n : Nat) (h : a.size = n) : (a ++ b).data.toList.take n = a.data.toList := by
  rw [app_list, List.take_append_of_le_length (by rw [← Lib.size_eq]; omega), List.take_of_length_le (by rw [← Lib.size_eq]; omega)]
theorem app_head (a b : ByteArray) (n : Nat) (h : a.size = n) : (a ++ b).extract 0 n = a := by
  apply list_ext
  rw [Lib.extract_data, List.drop_zero, Nat.sub_zero, app_take a b n h]
theorem take_put (n v : Nat) (r : ByteArray) (h : okN n = true) : takeT (beS n v ++ r) 0 n = (r, 0, ((v % 256 ^ n : Nat) : Int)) := by
  have hsz := beS_size n v
  unfold takeT
  rw [if_neg (by simp), if_neg (by simp [h]), Int.toNat_natCast, if_neg (by rw [app_size]; omega), app_drop _ _ _ hsz, app_take _ _ _ hsz, beS, numB_be]
theorem take_put8 (v : Int) (r : ByteArray) (h0 : 0 ≤ v) (h1 : v < 18446744073709551616) : takeT (beS 8 v.toNat ++ r) 0 8 = (r, 0, v) := by
  have h := take_put 8 v.toNat r (by decide)
  rw [show ((8 : Nat) : Int) = 8 from rfl] at h
  rw [h, Nat.mod_eq_of_lt (by show v.toNat < 18446744073709551616; omega), Int.toNat_of_nonneg h0]
theorem take_put4 (v : Int) (r : ByteArray) (h0 : 0 ≤ v) : takeT (beS 4 v.toNat ++ r) 0 4 = (r, 0, v % 4294967296) := by
  have h := take_put 4 v.toNat r (by decide)
  rw [show ((4 : Nat) : Int) = 4 from rfl] at h
  rw [h, show (256 ^ 4 : Nat) = 4294967296 from rfl, show ((v.toNat % 4294967296 : Nat) : Int) = v % 4294967296 from by omega]
theorem flag_put (b : Bool) (r : ByteArray) : flagT (flagS b ++ r) 0 = (r, 0, b) := by
  have h := take_put 1 b.toNat r (by decide)
  rw [show ((1 : Nat) : Int) = 1 from rfl] at h
  unfold flagT flagS
  rw [h]
  cases b <;> rfl
theorem text_put (s t : ByteArray) (hs : s.size ≤ 4096) : textT (beS 2 s.size ++ s ++ t) 0 = (t, 0, s) := by
  have h := take_put 2 s.size (s ++ t) (by decide)
  rw [show ((2 : Nat) : Int) = 2 from rfl, Nat.mod_eq_of_lt (by show s.size < 65536; omega)] at h
  rw [app_assoc]
  unfold textT
  rw [h, if_neg (by simp), if_neg (by show ¬ (4096 : Int) < (s.size : Int); omega), if_neg (by show ¬ (((s ++ t).size : Nat) : Int) < (s.size : Int); rw [app_size]; omega)]
  show ((s ++ t).extract ((s.size : Nat) : Int).toNat (s ++ t).size, (0 : Int), (s ++ t).extract 0 ((s.size : Nat) : Int).toNat) = _
  rw [Int.toNat_natCast, app_drop _ _ _ rfl, app_head _ _ _ rfl]

/-! ### The walk -/
theorem u64_of {v : Int} (h : (Lit.int .u64 v).wf = true) : 0 ≤ v ∧ v < 18446744073709551616 := by
  simp [Lit.wf, IntKind.min, IntKind.max, IntKind.signed, IntKind.bits] at h; omega
theorem i64_of {v : Int} (h : (Lit.int .i64 v).wf = true) : -9223372036854775808 ≤ v ∧ v < 9223372036854775808 := by
  simp [Lit.wf, IntKind.min, IntKind.max, IntKind.signed, IntKind.bits] at h; omega
theorem wrap_forth (v : Int) (h0 : -9223372036854775808 ≤ v) (h1 : v < 9223372036854775808) : wrap64 (IntKind.u64.wrap v) = v := by
  simp [IntKind.wrap, IntKind.signed, IntKind.bits, wrap64]; omega
theorem tint_at {b : Nat} {s s1 : ByteArray} {e e1 v x : Int} (w : World) (hs : s.size ≤ maxLen) (ht : atT w b s e) (h : takeT s e 8 = (s1, e1, v)) (hx : wrap64 v = x) :
    Calls Try.prog 16 #[.pointer (some ⟨b, 0, none⟩)] w fun r w' => r = .returned (.int .i64 x) ∧ Moved b w w' s1 e1 := by
  have := tint_any b s e w hs ht
  rw [h] at this
  rw [← hx]
  exact this
theorem tflag_at {b : Nat} {s s1 : ByteArray} {e e1 : Int} {x : Bool} (w : World) (hs : s.size ≤ maxLen) (ht : atT w b s e) (h : flagT s e = (s1, e1, x)) :
    Calls Try.prog 18 #[.pointer (some ⟨b, 0, none⟩)] w fun r w' => r = .returned (.bool x) ∧ Moved b w w' s1 e1 := by
  have := tflag_any b s e w hs ht
  rw [h] at this
  exact this
theorem ttext_at {b : Nat} {s s1 : ByteArray} {e e1 : Int} {x : ByteArray} (w : World) (hs : s.size ≤ maxLen) (ht : atT w b s e) (h : textT s e = (s1, e1, x)) :
    Calls Try.prog 20 #[.pointer (some ⟨b, 0, none⟩)] w fun r w' => r = .returned (.string x) ∧ Moved b w w' s1 e1 := by
  have := ttext_any b s e w hs ht
  rw [h] at this
  exact this
theorem tend_at {b : Nat} {s : ByteArray} {e x : Int} (w : World) (ht : atT w b s e) (h : endT s e = x) :
    Calls Try.prog 21 #[.pointer (some ⟨b, 0, none⟩)] w fun r w' => r = .returned (.int .i64 x) ∧ w = w' := by
  have := tend_any b s e w ht
  rw [h] at this
  exact this
theorem add_run (a b c : ByteArray) (h : a.size + b.size ≤ 9223372036854775807) (hc : a ++ b = c) (W : World) : (Op.stringOp .add a b).run Try.prog W = .ok (.string c) W := by
  rw [run_string_add_sum W _ _ h, hc]
/-- A new block of the call's own that has come to hold another Taker: of what was there nothing has turned. -/
theorem Moved.below {w w0 w1 : World} {s : ByteArray} {e : Int} {b : Nat} (hf : Fresh w w0) (h : Moved b w0 w1 s e) (hb : w.heap.size ≤ b) : Fresh w w1 :=
  ⟨h.os.trans hf.os, h.tape.trans hf.tape, h.output.trans hf.output, Nat.le_trans hf.size h.size, fun k hk => (h.block k (Nat.lt_of_lt_of_le hk hf.size) (by omega)).trans (hf.block k hk)⟩

set_option maxRecDepth 100000 in
set_option maxHeartbeats 1000000 in
theorem walk_main (a0 : Int) (a1 : Int) (a2 : Bool) (a3 : ByteArray) (a4 : ByteArray) (h0 : 0 ≤ a0) (h0' : a0 < 18446744073709551616) (h1 : -9223372036854775808 ≤ a1) (h1' : a1 < 9223372036854775808) (h3 : a3.size ≤ 4096) (h4 : a4.size ≤ 100) (w : World) :
    Calls Try.prog 5 #[.int .u64 a0, .int .i64 a1, .bool a2, .string a3, .string a4] w fun e w' => e = .returned (.bool true) ∧ Fresh w w' := by
  have hw := wrap_u64 a1
  have HE := Lib.hid (wrap_forth a1 h1 h1')
  have T1 := Lib.hid (take_put8 a0 (beS 4 a0.toNat ++ (beS 8 (IntKind.u64.wrap a1).toNat ++ (flagS a2 ++ (beS 2 a3.size ++ a3 ++ a4)))) h0 h0')
  have T2 := Lib.hid (take_put4 a0 (beS 8 (IntKind.u64.wrap a1).toNat ++ (flagS a2 ++ (beS 2 a3.size ++ a3 ++ a4))) h0)
  have T3 := Lib.hid (take_put8 (IntKind.u64.wrap a1) (flagS a2 ++ (beS 2 a3.size ++ a3 ++ a4)) hw.1 hw.2)
  have T4 := Lib.hid (flag_put a2 (beS 2 a3.size ++ a3 ++ a4))
  have T5 := Lib.hid (text_put a3 a4 h3)
  have s1 : (beS 8 a0.toNat).size = 8 := beS_size _ _
  have s2 : (beS 4 a0.toNat).size = 4 := beS_size _ _
  have s3 : (beS 8 (IntKind.u64.wrap a1).toNat).size = 8 := beS_size _ _
  have s4 : (flagS a2).size = 1 := beS_size _ _
  have s5 : (beS 2 a3.size).size = 2 := beS_size _ _
  have A1 := add_run (beS 8 a0.toNat) (beS 4 a0.toNat) _ (by omega) rfl
  have A2 := add_run (beS 8 a0.toNat ++ beS 4 a0.toNat) (beS 8 (IntKind.u64.wrap a1).toNat) _ (by rw [app_size]; omega) rfl
  have A3 := add_run (beS 8 a0.toNat ++ beS 4 a0.toNat ++ beS 8 (IntKind.u64.wrap a1).toNat) (flagS a2) _ (by rw [app_size, app_size]; omega) rfl
  have A4 := add_run (beS 8 a0.toNat ++ beS 4 a0.toNat ++ beS 8 (IntKind.u64.wrap a1).toNat ++ flagS a2) (beS 2 a3.size ++ a3) _ (by rw [app_size, app_size, app_size, app_size]; omega) rfl
  have A5 := add_run (beS 8 a0.toNat ++ beS 4 a0.toNat ++ beS 8 (IntKind.u64.wrap a1).toNat ++ flagS a2 ++ (beS 2 a3.size ++ a3)) a4
    (beS 8 a0.toNat ++ (beS 4 a0.toNat ++ (beS 8 (IntKind.u64.wrap a1).toNat ++ (flagS a2 ++ (beS 2 a3.size ++ a3 ++ a4))))) (by rw [app_size, app_size, app_size, app_size, app_size]; omega) (by simp only [app_assoc])
  have Z1 : (beS 8 a0.toNat ++ (beS 4 a0.toNat ++ (beS 8 (IntKind.u64.wrap a1).toNat ++ (flagS a2 ++ (beS 2 a3.size ++ a3 ++ a4))))).size ≤ maxLen := by unfold maxLen; simp only [app_size]; omega
  have Z2 : (beS 4 a0.toNat ++ (beS 8 (IntKind.u64.wrap a1).toNat ++ (flagS a2 ++ (beS 2 a3.size ++ a3 ++ a4)))).size ≤ maxLen := by unfold maxLen; simp only [app_size]; omega
  have Z3 : (beS 8 (IntKind.u64.wrap a1).toNat ++ (flagS a2 ++ (beS 2 a3.size ++ a3 ++ a4))).size ≤ maxLen := by unfold maxLen; simp only [app_size]; omega
  have Z4 : (flagS a2 ++ (beS 2 a3.size ++ a3 ++ a4)).size ≤ maxLen := by unfold maxLen; simp only [app_size]; omega
  have Z5 : (beS 2 a3.size ++ a3 ++ a4).size ≤ maxLen := by unfold maxLen; simp only [app_size]; omega
  clear s1 s2 s3 s4 s5
  go_enter Try.func5, Try.ntmps5
  go_wp2_with fail
  refine (text_ok _ _ h3).mono ?_
  rintro e w1 ⟨rfl, hg1⟩
  go_wp2_with fail
  refine (put_yes _ _ _ (by decide) h0 h0').mono ?_
  rintro e w2 ⟨rfl, hg2⟩
  go_wp2_with fail
  refine (put_yes _ _ _ (by decide) h0 h0').mono ?_
  rintro e w3 ⟨rfl, hg3⟩
  go_wp2_with fail
  refine (int_any _ _).mono ?_
  rintro e w4 ⟨rfl, hg4⟩
  go_wp2_with fail
  refine (flag_any _ _).mono ?_
  rintro e w5 ⟨rfl, hg5⟩
  go_wp2_with fail
  refine (take_at _ Z1 (heap_alloc_new w5 _) T1.out).mono ?_
  rintro e w6 ⟨rfl, hm6⟩
  go_wp2_with fail
  refine (take_at _ Z2 hm6.isT T2.out).mono ?_
  rintro e w7 ⟨rfl, hm7⟩
  go_wp2_with fail
  refine (tint_at _ Z3 hm7.isT T3.out HE.out).mono ?_
  rintro e w8 ⟨rfl, hm8⟩
  go_wp2_with fail
  refine (tflag_at _ Z4 hm8.isT T4.out).mono ?_
  rintro e w9 ⟨rfl, hm9⟩
  go_wp2_with fail
  refine (ttext_at _ Z5 hm9.isT T5.out).mono ?_
  rintro e w10 ⟨rfl, hm10⟩
  go_wp2_with fail
  refine (awake_true _).mono ?_
  rintro e w11 ⟨rfl, hg11⟩
  have hm := ((((hm6.trans hm7).trans hm8).trans hm9).trans hm10).fresh (atT_lt hm10.isT) hg11
  have hg : Fresh w w5 := (((hg1.trans hg2).trans hg3).trans hg4).trans hg5
  have hg' : Fresh w w11 := Moved.below (hg.alloc _) hm hg.size
  clear hm6 hm7 hm8 hm9 hm10 hg1 hg2 hg3 hg4 hg5 hg11 hg
  obtain ⟨hd0, hd1, hf0, hf1⟩ := atT_facts hm.isT
  by_cases he : a4.size = 0
  · obtain rfl : a4 = ⟨#[]⟩ := ByteArray.ext (Array.eq_empty_of_size_eq_zero he)
    clear he
    go_wp2_with fail
    refine (tend_at _ hm.isT (x := 0) rfl).mono ?_
    rintro e w12 ⟨rfl, rfl⟩
    go_wp2
    go_ret
    exact ⟨rfl, hg'⟩
  · have hb : a4.toList.isEmpty = false := toList_some he
    have HX : Hid (endT a4 0 = 6) := by unfold endT; rw [if_pos ⟨rfl, he⟩]; exact rfl
    clear he
    go_wp2_with fail
    refine (tend_at _ hm.isT HX.out).mono ?_
    rintro e w12 ⟨rfl, rfl⟩
    go_wp2
    go_ret
    exact ⟨rfl, hg'⟩

theorem walk (a0 : Int) (a1 : Int) (a2 : Bool) (a3 : ByteArray) (a4 : ByteArray) (w0 : (Lit.int .u64 a0).wf = true) (w1 : (Lit.int .i64 a1).wf = true) (w3 : a3.size ≤ maxLen) (w4 : a4.size ≤ maxLen) (w : World) :
    Calls Try.prog 5 #[.int .u64 a0, .int .i64 a1, .bool a2, .string a3, .string a4] w fun e w' => e = .returned (.bool true) ∧ Fresh w w' := by
  obtain ⟨h0, h0'⟩ := u64_of w0
  obtain ⟨h1, h1'⟩ := i64_of w1
  unfold maxLen at w3 w4
  by_cases h3 : a3.size ≤ 4096
  · by_cases h4 : a4.size ≤ 100
    · exact walk_main a0 a1 a2 a3 a4 h0 h0' h1 h1' h3 h4 w
    · have h4' : 100 < a4.size := by omega
      clear w0 w1 h4
      go_enter Try.func5, Try.ntmps5
      go_wp2_with fail
      refine (awake_true _).mono ?_
      rintro e w1 ⟨rfl, hg1⟩
      go_wp2
      go_ret
      exact ⟨rfl, hg1⟩
  · have h3' : 4096 < a3.size := by omega
    clear w0 w1 h3
    go_enter Try.func5, Try.ntmps5
    go_wp2_with fail
    refine (awake_true _).mono ?_
    rintro e w1 ⟨rfl, hg1⟩
    go_wp2
    go_ret
    exact ⟨rfl, hg1⟩

/-! ### From the walk to the row -/
set_option maxRecDepth 100000 in
theorem lifted (os : Os) (started : os.Started) (H : Type) (enc : TypeId × Value → H) :
    ReturnsInHanded {} Try.checked os 5 .any (Rows.packBackSpec.pre6 enc Try.prog Try.f5 Rows.packBackRow.domain false) (Rows.packBackSpec.post enc Try.prog Try.f5 false true false false) := by
  refine returnsInHanded_of_change (C := Try.checked) own started (by kernel_rfl) Try.func5
    (ChangeSpec.witness6 (enc := enc) (C := Try.checked) false ⟨#[], #[.int .u64 0, .int .i64 0, .bool false, .string ByteArray.empty, .string ByteArray.empty], []⟩ 8 (by kernel_rfl) (by kernel_rfl) (by kernel_rfl) (by kernel_rfl)) ?_
  intro W base args ds gs before hval0 hW hcnd _
  have hval : ∀ (j : Nat) t v, Try.f5.params[j]? = some t → args[j]? = some v → Value.okWide Try.prog W .any base t v := hval0
  have hW' := hW
  obtain ⟨p, q, hA0, hV, rfl, hfz, hnd⟩ := hW
  have hA : DataW.TrodAll enc Try.prog W 0 (fun _ => true) true Try.f5.params.toList args.toList ds p := hA0
  rw [Try.params5] at hA hval
  obtain ⟨v0, vs0, d0, ds0, p0, q0, hargs, rfl, rfl, h0, r0⟩ := trodAll_cons hA
  obtain ⟨v1, vs1, d1, ds1, p1, q1, rfl, rfl, rfl, h1, r1⟩ := trodAll_cons r0
  obtain ⟨v2, vs2, d2, ds2, p2, q2, rfl, rfl, rfl, h2, r2⟩ := trodAll_cons r1
  obtain ⟨v3, vs3, d3, ds3, p3, q3, rfl, rfl, rfl, h3, r3⟩ := trodAll_cons r2
  obtain ⟨v4, vs4, d4, ds4, p4, q4, rfl, rfl, rfl, h4, r4⟩ := trodAll_cons r3
  obtain ⟨rfl, rfl, rfl⟩ := trodAll_nil r4
  obtain rfl : args = #[v0, v1, v2, v3, v4] := by cases args; simp_all
  obtain ⟨rfl, rfl⟩ := trodVars_none hV
  obtain ⟨a0, rfl, rfl, rfl, w0⟩ := open_int Try.underlying22 (hval 0 22 v0 rfl rfl) h0
  obtain ⟨a1, rfl, rfl, rfl, w1⟩ := open_int Try.underlying2 (hval 1 2 v1 rfl rfl) h1
  obtain ⟨a2, rfl, rfl, rfl⟩ := open_bool Try.underlying4 (hval 2 4 v2 rfl rfl) h2
  obtain ⟨a3, rfl, rfl, rfl, w3⟩ := open_string Try.underlying9 (hval 3 9 v3 rfl rfl) h3
  obtain ⟨a4, rfl, rfl, rfl, w4⟩ := open_string Try.underlying9 (hval 4 9 v4 rfl rfl) h4
  clear hA0 hval0
  simp only [List.append_nil] at hW'
  refine (walk a0 a1 a2 a3 a4 w0 w1 w3 w4 W).mono fun e W' ⟨he, hg⟩ => ?_
  subst he
  exact ⟨_, rfl, _, _, _, [], _, [], hW', trodAll_mk1 (shut_bool Try.underlying4 _), (trodAll_cons_mk (shut_int Try.underlying22 w0) (trodAll_cons_mk (shut_int Try.underlying2 w1) (trodAll_cons_mk (shut_bool Try.underlying4 _) (trodAll_cons_mk (shut_string Try.underlying9 w3) (trodAll_cons_mk (shut_string Try.underlying9 w4) trodAll_mk0))))), rfl, Below.frame hg _, fun h => by cases h⟩

theorem over : Rows.packBackRow.holds Try.pinned (OpenSpec.ofChange Rows.packBackSpec) :=
  OpenClaim.holds_of_wide 5 Try.f5 rfl rfl rfl rfl rfl rfl rfl ⟨rfl, rfl, rfl, rfl, rfl⟩ rfl rfl rfl rfl rfl (by kernel_rfl) Try.func5 (by kernel_rfl)
    (of_decide_eq_true (by kernel_rfl)) (by unfold Func.isWrapper; first | (rw [if_pos (by decide +kernel)]; kernel_rfl) | (rw [if_neg (by decide +kernel)]; exact ⟨rfl, rfl⟩))
    (fun os started H enc _ => lifted os started H enc)

theorem packBack_holds : Rows.PackBackSaid :=
  over
#print axioms packBack_holds
end Go.Proofs.Ytpnhbgidoafklaa.packBack
