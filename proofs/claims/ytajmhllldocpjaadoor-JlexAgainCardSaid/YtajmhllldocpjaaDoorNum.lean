/-
  Digits: what they say, by the document and by the library. No call.
-/
import Derived.Lib.ParseIntB
import Derived.Lib.Strings
import GoSem.Op.String
namespace Go.Proofs.YtajmhllldocpjaaDoor
open Go.Lib

def digB (c : UInt8) : Bool := decide (48 ≤ c.toNat ∧ c.toNat ≤ 57)
theorem digB_iff (c : UInt8) : digB c = true ↔ 48 ≤ c.toNat ∧ c.toNat ≤ 57 := by simp [digB]
/-- How many bytes at the beginning are such ones. -/
def cnt (p : UInt8 → Bool) : List UInt8 → Nat
  | [] => 0
  | c :: l => if p c = true then cnt p l + 1 else 0
theorem cnt_le (p : UInt8 → Bool) : ∀ l : List UInt8, cnt p l ≤ l.length
  | [] => Nat.le_refl 0
  | c :: l => by
    have := cnt_le p l
    unfold cnt
    split
    · simp; omega
    · simp
theorem cnt_all (p : UInt8 → Bool) : ∀ l : List UInt8, (∀ c ∈ l, p c = true) ↔ cnt p l = l.length
  | [] => by simp [cnt]
  | c :: l => by
    have ih := cnt_all p l
    have hl := cnt_le p l
    unfold cnt
    by_cases h : p c = true
    · rw [if_pos h]
      simp [h, ih]
    · rw [if_neg h]
      simp [h]
theorem cnt_take (p : UInt8 → Bool) : ∀ l : List UInt8, ∀ c ∈ l.take (cnt p l), p c = true
  | [], c, h => by simp at h
  | d :: l, c, h => by
    unfold cnt at h
    by_cases hd : p d = true
    · rw [if_pos hd, List.take_succ_cons] at h
      rcases List.mem_cons.1 h with rfl | h
      · exact hd
      · exact cnt_take p l c h
    · rw [if_neg hd] at h
      simp at h
/-- What digits say, behind others that say acc. -/
def numA (acc : Nat) (l : List UInt8) : Nat := l.foldl (fun a c => a * 10 + (c.toNat - 48)) acc
def num (l : List UInt8) : Nat := numA 0 l
theorem numA_cons (acc : Nat) (c : UInt8) (l : List UInt8) : numA acc (c :: l) = numA (acc * 10 + (c.toNat - 48)) l := by unfold numA; rw [List.foldl_cons]
theorem numA_snoc (acc : Nat) (l : List UInt8) (c : UInt8) : numA acc (l ++ [c]) = numA acc l * 10 + (c.toNat - 48) := by simp [numA]
theorem numA_ge (l : List UInt8) : ∀ acc : Nat, acc ≤ numA acc l := by
  induction l with
  | nil => exact fun acc => Nat.le_refl acc
  | cons c l ih =>
    intro acc
    rw [numA_cons]
    have := ih (acc * 10 + (c.toNat - 48))
    generalize numA (acc * 10 + (c.toNat - 48)) l = z at *
    omega
theorem numA_eq : ∀ (l : List UInt8) (acc : Nat), numA acc l = acc * 10 ^ l.length + num l
  | [], acc => by simp [numA, num]
  | c :: l, acc => by
    have h1 := numA_eq l (acc * 10 + (c.toNat - 48))
    have h2 := numA_eq l (0 * 10 + (c.toNat - 48))
    have e : num (c :: l) = numA (0 * 10 + (c.toNat - 48)) l := numA_cons 0 c l
    rw [numA_cons, h1, e, h2, List.length_cons, Nat.pow_succ, Nat.zero_mul, Nat.zero_add, Nat.add_mul, Nat.mul_assoc, Nat.mul_comm 10]
    omega
theorem num_lt : ∀ (l : List UInt8), (∀ c ∈ l, digB c = true) → num l < 10 ^ l.length
  | [], _ => by simp [num, numA]
  | c :: l, h => by
    have ih := num_lt l (fun d hd => h d (List.mem_cons_of_mem _ hd))
    have hc := (digB_iff c).1 (h c (by simp))
    rw [num, numA_cons, numA_eq, List.length_cons, Nat.pow_succ]
    have : (0 * 10 + (c.toNat - 48)) * 10 ^ l.length ≤ 9 * 10 ^ l.length := Nat.mul_le_mul_right _ (by omega)
    omega
theorem num_cons (c : UInt8) (l : List UInt8) : num (c :: l) = (c.toNat - 48) * 10 ^ l.length + num l := by
  rw [num, numA_cons, numA_eq]; simp
theorem num_take (l : List UInt8) (k : Nat) : num (l.take k) ≤ num l := by
  conv => rhs; rw [← List.take_append_drop k l]
  have e : num (l.take k ++ l.drop k) = numA (num (l.take k)) (l.drop k) := by unfold num numA; rw [List.foldl_append]
  rw [e]
  exact numA_ge _ _
theorem pum (M : Nat) (hM : M ≤ 18446744073709551615) : ∀ (l : List UInt8) (acc : Nat), (∀ c ∈ l, digB c = true) → acc ≤ M → parseUintM M acc l = if numA acc l ≤ M then .ok (numA acc l) else .range
  | [], acc, _, ha => by
    show NumEnd.ok acc = _
    rw [if_pos (show numA acc [] ≤ M from ha)]
    rfl
  | c :: l, acc, h, ha => by
    have hc := (digB_iff c).1 (h c (by simp))
    have hge := numA_ge l (acc * 10 + (c.toNat - 48))
    rw [parseUintM, if_pos hc, numA_cons]
    by_cases h1 : 1844674407370955162 ≤ acc
    · rw [if_pos h1, if_neg (by omega)]
    · rw [if_neg h1]
      by_cases h2 : M < acc * 10 + (c.toNat - 48)
      · rw [if_pos h2, if_neg (by omega)]
      · rw [if_neg h2, pum M hM l _ (fun d hd => h d (List.mem_cons_of_mem _ hd)) (by omega)]
/-- The text behind a sign. -/
def behind (l : List UInt8) : List UInt8 := trimPrefix l [45]
theorem behind_minus (l : List UInt8) : behind (45 :: l) = l := by simp [behind, trimPrefix, hasPrefix]
theorem behind_other (l : List UInt8) (h : ∀ r, l ≠ 45 :: r) : behind l = l := by
  unfold behind trimPrefix hasPrefix
  rcases l with _ | ⟨c, l⟩
  · simp
  · have hc : (45 == c) = false := by
      rw [beq_eq_false_iff_ne]
      rintro rfl
      exact h l rfl
    simp [List.isPrefixOf, hc]
/-- Is it below 0? -/
def minus (l : List UInt8) : Bool := match l with
  | [] => false
  | c :: _ => c == 45
/-- What digits may be: one at least, no 0 ahead of others. -/
def digits (ds : List UInt8) : Bool := decide (ds ≠ [] ∧ cnt digB ds = ds.length ∧ (ds.head? ≠ some 48 ∨ ds = [48]))
/-- The greatest number behind a sign. -/
def most (l : List UInt8) : Nat := if minus l = true then 9223372036854775808 else 9223372036854775807
/-- What Whole answers: the number and the code. -/
def wholeV (l : List UInt8) : Int := if digits (behind l) = true ∧ num (behind l) ≤ most l then (if minus l = true then -(num (behind l) : Int) else (num (behind l) : Int)) else 0
def wholeE (l : List UInt8) : Int := if digits (behind l) = true then (if num (behind l) ≤ most l then 0 else 7) else 12
theorem digits_iff (ds : List UInt8) : digits ds = true ↔ ds ≠ [] ∧ (∀ c ∈ ds, digB c = true) ∧ (ds.head? ≠ some 48 ∨ ds = [48]) := by
  rw [digits, decide_eq_true_iff, cnt_all]
theorem minus_of {l : List UInt8} (h : minus l = true) : ∃ r, l = 45 :: r := by
  unfold minus at h
  rcases l with _ | ⟨c, l⟩
  · cases h
  · have := eq_of_beq h
    subst this
    exact ⟨l, rfl⟩
theorem minus_no {l : List UInt8} (h : minus l = false) : ∀ r, l ≠ 45 :: r := by
  rintro r rfl
  simp [minus] at h
/-- The library's ParseInt of such digits, with a sign or none. -/
theorem parse_digits (l : List UInt8) (h : digits (behind l) = true) : parseIntB 64 l = if num (behind l) ≤ most l then .ok (if minus l = true then -(num (behind l) : Int) else (num (behind l) : Int)) else .range := by
  obtain ⟨h0, h1, _⟩ := (digits_iff _).1 h
  cases hm : minus l with
  | true =>
    obtain ⟨r, rfl⟩ := minus_of hm
    rw [behind_minus] at *
    have hp := pum 18446744073709551615 (Nat.le_refl _) r 0 h1 (by omega)
    have e1 : (45 : UInt8).toNat = 45 := rfl
    simp only [parseIntB, e1, parseUintB, h0, most, hm, if_true, if_false, or_true, show (2 ^ 64 - 1 : Nat) = 18446744073709551615 from rfl, show (2 ^ (64 - 1) : Nat) = 9223372036854775808 from rfl]
    rw [hp]
    show _ = if num r ≤ 9223372036854775808 then _ else _
    have e2 : numA 0 r = num r := rfl
    rw [e2]
    by_cases a : num r ≤ 18446744073709551615
    · rw [if_pos a]
      by_cases b : num r ≤ 9223372036854775808
      · rw [if_pos b]
        simp
        omega
      · rw [if_neg b]
        simp
        omega
    · rw [if_neg a, if_neg (by omega)]
  | false =>
    have hb := behind_other l (minus_no hm)
    rw [hb] at h h0 h1
    rw [hb]
    clear hb
    rcases l with _ | ⟨c, r⟩
    · exact absurd rfl h0
    have hc := (digB_iff c).1 (h1 c (by simp))
    have hp := pum 18446744073709551615 (Nat.le_refl _) (c :: r) 0 h1 (by omega)
    have e3 : ¬ c.toNat = 45 := by omega
    have e4 : ¬ c.toNat = 43 := by omega
    simp only [parseIntB, parseUintB, most, hm, e4, e3, or_self, show (2 ^ 64 - 1 : Nat) = 18446744073709551615 from rfl, show (2 ^ (64 - 1) : Nat) = 9223372036854775808 from rfl, reduceCtorEq, if_false]
    rw [hp]
    have e2 : numA 0 (c :: r) = num (c :: r) := rfl
    rw [e2]
    by_cases a : num (c :: r) ≤ 18446744073709551615
    · rw [if_pos a]
      by_cases b : num (c :: r) ≤ 9223372036854775807
      · rw [if_pos b]
        simp
        omega
      · rw [if_neg b]
        simp
        omega
    · rw [if_neg a, if_neg (by omega)]
theorem lex_num : ∀ (a b : List UInt8), a.length = b.length → (∀ c ∈ a, digB c = true) → (∀ c ∈ b, digB c = true) → (Op.bytesLess a b = true ↔ num a < num b) ∧ (a = b ↔ num a = num b)
  | [], [], _, _, _ => by simp [Op.bytesLess]
  | [], _ :: _, h, _, _ => by simp at h
  | _ :: _, [], h, _, _ => by simp at h
  | x :: a, y :: b, h, ha, hb => by
    have hl : a.length = b.length := by simpa using h
    obtain ⟨i1, i2⟩ := lex_num a b hl (fun d hd => ha d (List.mem_cons_of_mem _ hd)) (fun d hd => hb d (List.mem_cons_of_mem _ hd))
    have hx := (digB_iff x).1 (ha x (by simp))
    have hy := (digB_iff y).1 (hb y (by simp))
    have na := num_lt a (fun d hd => ha d (List.mem_cons_of_mem _ hd))
    have nb := num_lt b (fun d hd => hb d (List.mem_cons_of_mem _ hd))
    rw [num_cons, num_cons, hl]
    rw [hl] at na
    generalize 10 ^ b.length = t at *
    have hxy : x < y ↔ x.toNat < y.toNat := UInt8.lt_iff_toNat_lt
    rcases Nat.lt_trichotomy x.toNat y.toNat with hlt | heq | hgt
    · have k : (x.toNat - 48 + 1) * t ≤ (y.toNat - 48) * t := Nat.mul_le_mul_right _ (by omega)
      rw [Nat.add_mul, Nat.one_mul] at k
      have hne : x ≠ y := by rintro rfl; omega
      constructor
      · simp [Op.bytesLess, hxy.2 hlt]; omega
      · simp [hne]; omega
    · obtain rfl : x = y := UInt8.toNat_inj.1 heq
      constructor
      · rw [Op.bytesLess]
        simp [i1]
      · simp [i2]
    · have k : (y.toNat - 48 + 1) * t ≤ (x.toNat - 48) * t := Nat.mul_le_mul_right _ (by omega)
      rw [Nat.add_mul, Nat.one_mul] at k
      have hne : x ≠ y := by rintro rfl; omega
      have hnl : ¬ x < y := by rw [hxy]; omega
      constructor
      · rw [Op.bytesLess]
        simp [hnl, hne]; omega
      · simp [hne]; omega
/-- The document's way: by how many digits, and by the greatest ones. -/
theorem most_digits (ds m : List UInt8) (h : digits ds = true) (hm : m.length = 19) (hmd : ∀ c ∈ m, digB c = true) (h1 : 1000000000000000000 ≤ num m) :
    (19 < ds.length ∨ ds.length = 19 ∧ (Op.bytesLess ds m || ds == m) = false) ↔ num m < num ds := by
  obtain ⟨d0, d1, d2⟩ := (digits_iff _).1 h
  have hm2 := num_lt m hmd
  rw [hm] at hm2
  rcases Nat.lt_trichotomy ds.length 19 with hlt | heq | hgt
  · have k := num_lt ds d1
    have k2 : (10 : Nat) ^ ds.length ≤ 10 ^ 18 := Nat.pow_le_pow_right (by decide) (by omega)
    constructor
    · rintro (a | a) <;> omega
    · intro a
      have : (10 : Nat) ^ 18 = 1000000000000000000 := rfl
      omega
  · obtain ⟨i1, i2⟩ := lex_num ds m (by omega) d1 hmd
    constructor
    · rintro (a | ⟨_, a⟩)
      · omega
      · rw [Bool.or_eq_false_iff, beq_eq_false_iff_ne] at a
        have b1 : ¬ num ds < num m := fun e => by rw [i1.2 e] at a; exact absurd a.1 (by simp)
        have b2 : ¬ num ds = num m := fun e => a.2 (i2.2 e)
        omega
    · intro a
      refine .inr ⟨heq, ?_⟩
      rw [Bool.or_eq_false_iff, beq_eq_false_iff_ne]
      refine ⟨?_, fun e => ?_⟩
      · cases hb : Op.bytesLess ds m with
        | false => rfl
        | true => have := i1.1 hb; omega
      · have := i2.1 e; omega
  · rcases ds with _ | ⟨c, r⟩
    · exact absurd rfl d0
    have hc := (digB_iff c).1 (d1 c (by simp))
    have hc2 : c.toNat ≠ 48 := fun e => by
      have : c = 48 := UInt8.toNat_inj.1 e
      subst this
      rcases d2 with d2 | d2
      · simp at d2
      · rw [d2] at hgt; simp at hgt
    have k : 1 * 10 ^ r.length ≤ (c.toNat - 48) * 10 ^ r.length := Nat.mul_le_mul_right _ (by omega)
    have k2 : (10 : Nat) ^ 19 ≤ 10 ^ r.length := Nat.pow_le_pow_right (by decide) (by simp at hgt; omega)
    rw [num_cons]
    constructor
    · intro _; omega
    · exact fun _ => .inl hgt
end Go.Proofs.YtajmhllldocpjaaDoor
