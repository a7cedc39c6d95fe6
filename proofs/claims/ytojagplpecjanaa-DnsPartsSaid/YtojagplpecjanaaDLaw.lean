/-
  bosunlaw13.DnsParts, walked.
-/
import Derived.Test.YtojagplpecjanaaDParts
namespace Go.Proofs.Ytojagplpecjanaa
open Go.ChangeShapes Go.WideShapes Go.ChangeAt Go.RowKit

theorem awake_any (w : World) : Calls Try.prog 4 #[] w fun e w' => e = .returned (.bool true) ∧ Fresh w w' := by
  have HL1 : Hid (∀ W, Calls Try.prog 7 #[.string ⟨#[97, 45, 49]⟩] W fun e w' => e = .returned (.bool true) ∧ W = w') := fun W => label_any ⟨#[97, 45, 49]⟩ W (by decide)
  have HL2 : Hid (∀ W, Calls Try.prog 7 #[.string ⟨#[45, 97]⟩] W fun e w' => e = .returned (.bool false) ∧ W = w') := fun W => label_any ⟨#[45, 97]⟩ W (by decide)
  have HN : Hid (∀ W, Calls Try.prog 5 #[.string ⟨#[97, 46, 98, 45, 99]⟩] W fun e w' => e = .returned (.bool true) ∧ Fresh W w') := fun W => name_any [97, 46, 98, 45, 99] W (by decide)
  have HV := Lib.hid (fun W => var_any W)
  go_enter Try.func4, Try.ntmps4
  go_wp2_with (fail)
  refine (HL1.out _).mono ?_
  rintro e w' ⟨rfl, rfl⟩
  go_wp2_with (fail)
  refine (HL2.out _).mono ?_
  rintro e w' ⟨rfl, rfl⟩
  go_wp2_with (fail)
  refine (HN.out _).mono ?_
  rintro e w1 ⟨rfl, hf⟩
  go_wp2_with (fail)
  refine (HV.out _).mono ?_
  rintro e w' ⟨rfl, rfl⟩
  go_wp2
  go_ret
  exact ⟨rfl, hf⟩
theorem fold_len : ∀ (r : List (List UInt8)) (s : List UInt8), s.length ≤ (r.foldl (fun s p => s ++ (46 :: p)) s).length
  | [], s => Nat.le_refl _
  | x :: r, s => by
    rw [List.foldl_cons]
    have := fold_len r (s ++ (46 :: x))
    rw [List.length_append] at this
    omega
theorem join_take_len (l : List (List UInt8)) (k : Nat) : (joinF (l.take k)).length ≤ (joinF l).length := by
  cases l with
  | nil => simp
  | cons x r =>
    cases k with
    | zero => simp [joinF]
    | succ k =>
      rw [List.take_succ_cons]
      show ((r.take k).foldl (fun s p => s ++ (46 :: p)) x).length ≤ (r.foldl (fun s p => s ++ (46 :: p)) x).length
      conv => rhs; rw [← List.take_append_drop k r, List.foldl_append]
      exact fold_len _ _
theorem join_step (l : List (List UInt8)) (k : Nat) (h : k < l.length) : joinF (l.take (k + 1)) = if k = 0 then l[k] else joinF (l.take k) ++ (46 :: l[k]) := by
  rw [List.take_succ_eq_append_getElem h, joinF_snoc]
  by_cases h0 : k = 0
  · subst h0; simp
  · rw [if_neg h0, if_neg]
    intro e
    have := congrArg List.length e
    rw [List.length_take, List.length_nil] at this
    omega
theorem tx_app (l m : List UInt8) : tx l ++ tx m = tx (l ++ m) := by
  apply ByteArray.ext
  simp [tx]
theorem tx_point : (⟨#[46]⟩ : ByteArray) = tx [46] := rfl
theorem label_tx (l : List UInt8) (w : World) (h : l.length ≤ maxLen) : Calls Try.prog 7 #[.string (tx l)] w fun e w' => e = .returned (.bool (labB l)) ∧ w = w' := by
  have := label_any (tx l) w (by rw [tx_size]; exact h)
  rwa [tx_toList] at this

set_option maxRecDepth 100000 in
theorem walk_big (a b : ByteArray) (ha : a.size ≤ maxLen) (hb : b.size ≤ maxLen) (w : World) (h : 400 < a.size ∨ 400 < b.size) :
    Calls Try.prog 3 #[.string a, .string b] w fun e w' => e = .returned (.bool true) ∧ Fresh w w' := by
  unfold maxLen at ha hb
  have HA := Lib.hid (fun W => awake_any W)
  by_cases h1 : 400 < a.size
  · clear h
    go_enter Try.func3, Try.ntmps3
    go_wp2_with (fail)
    refine (HA.out _).mono ?_
    rintro e w1 ⟨rfl, hf⟩
    go_wp2
    go_ret
    exact ⟨rfl, hf⟩
  · have h2 : 400 < b.size := by omega
    clear h
    go_enter Try.func3, Try.ntmps3
    go_wp2_with (fail)
    refine (HA.out _).mono ?_
    rintro e w1 ⟨rfl, hf⟩
    go_wp2
    go_ret
    exact ⟨rfl, hf⟩

/-- What the law's last test wants: both texts, their names, the two with a point between. -/
structure Tail (la lb : List UInt8) : Prop where
  a : ∀ W, Calls Try.prog 5 #[.string (tx la)] W fun e w' => e = .returned (.bool (nameB la)) ∧ Fresh W w'
  b : ∀ W, Calls Try.prog 5 #[.string (tx lb)] W fun e w' => e = .returned (.bool (nameB lb)) ∧ Fresh W w'
  c : ∀ W, Calls Try.prog 5 #[.string (tx (la ++ 46 :: lb))] W fun e w' => e = .returned (.bool (nameB (la ++ 46 :: lb))) ∧ Fresh W w'
  e : tx la ++ ⟨#[46]⟩ ++ tx lb = tx (la ++ 46 :: lb)
  n : la.length + 1 + lb.length ≤ 253 → nameB (la ++ 46 :: lb) = (nameB la && nameB lb)
theorem tail_of (la lb : List UInt8) (ha : la.length ≤ 400) (hb : lb.length ≤ 400) : Tail la lb where
  a W := name_any la W (by unfold maxLen; omega)
  b W := name_any lb W (by unfold maxLen; omega)
  c W := name_any _ W (by unfold maxLen; simp; omega)
  e := by rw [tx_point, tx_app, tx_app]; simp
  n h := both_names la lb h

set_option maxRecDepth 100000 in
set_option maxHeartbeats 1000000 in
theorem walk_no (la lb : List UInt8) (ha : la.length ≤ 400) (hb : lb.length ≤ 400) (w : World) (hn : nameB la = false) :
    Calls Try.prog 3 #[.string (tx la), .string (tx lb)] w fun e w' => e = .returned (.bool true) ∧ Fresh w w' := by
  have HT := Lib.hid (tail_of la lb ha hb)
  have HA := Lib.hid (fun W => awake_any W)
  have HNA : Hid (∀ W, Calls Try.prog 5 #[.string (tx la)] W fun e w' => e = .returned (.bool false) ∧ Fresh W w') := by rw [Hid, ← hn]; exact HT.out.a
  have q0 := HT.out.e
  have s1 : (tx la).size ≤ 400 := by rw [tx_size]; exact ha
  have s2 : (tx lb).size ≤ 400 := by rw [tx_size]; exact hb
  have s3 : (tx (la ++ 46 :: lb)).size = (tx la).size + 1 + (tx lb).size := by simp [tx_size]; omega
  have HC : Hid ((tx la).size + 1 + (tx lb).size ≤ 253 → ∀ W, Calls Try.prog 5 #[.string (tx (la ++ 46 :: lb))] W fun e w' => e = .returned (.bool false) ∧ Fresh W w') := fun h W => by
    have := HT.out.c W
    rw [HT.out.n (by rw [tx_size, tx_size] at h; exact h), hn] at this
    exact this
  clear HT hn ha hb
  generalize tx (la ++ 46 :: lb) = C at *
  generalize tx la = A at *
  generalize tx lb = B at *
  by_cases hbig : A.size + 1 + B.size ≤ 253
  · have HCC := Lib.hid (HC.out hbig)
    go_enter Try.func3, Try.ntmps3
    go_wp2_with (fail)
    refine (HNA.out _).mono ?_
    rintro e w1 ⟨rfl, hf1⟩
    have HF1 := Lib.hid hf1
    clear hf1
    go_wp2_with (fail)
    refine (HA.out _).mono ?_
    rintro e w2 ⟨rfl, hf2⟩
    have HF2 := Lib.hid (HF1.out.trans hf2)
    clear hf2
    go_wp2_with (fail)
    refine (HCC.out _).mono ?_
    rintro e w3 ⟨rfl, hf3⟩
    have HF3 := Lib.hid (HF2.out.trans hf3)
    clear hf3
    go_wp2_with (fail)
    refine (HNA.out _).mono ?_
    rintro e w4 ⟨rfl, hf4⟩
    have HF4 := Lib.hid (HF3.out.trans hf4)
    clear hf4
    go_wp2
    go_ret
    exact ⟨rfl, HF4.out⟩
  · go_enter Try.func3, Try.ntmps3
    go_wp2_with (fail)
    refine (HNA.out _).mono ?_
    rintro e w1 ⟨rfl, hf1⟩
    have HF1 := Lib.hid hf1
    clear hf1
    go_wp2_with (fail)
    refine (HA.out _).mono ?_
    rintro e w2 ⟨rfl, hf2⟩
    have HF2 := Lib.hid (HF1.out.trans hf2)
    clear hf2
    go_wp2
    go_ret
    exact ⟨rfl, HF2.out⟩
end Go.Proofs.Ytojagplpecjanaa
