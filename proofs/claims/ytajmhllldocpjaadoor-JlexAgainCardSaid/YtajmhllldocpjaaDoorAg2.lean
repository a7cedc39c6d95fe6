/-
  Words, written one behind the other, are the same words. No call.
-/
import Derived.Test.YtajmhllldocpjaaDoorAg1
import Derived.Test.YtajmhllldocpjaaDoorLex
namespace Go.Proofs.YtajmhllldocpjaaDoor
open Go.Lib

theorem byNumF_valid (l : List UInt8) (h : (byNumF l).1 = 0) : validD (byNumF l).2.1 = true := by
  have hb := numF_four l
  by_cases c : (numF 4 0 l).1 ≠ 0
  · rw [byNum_err l c] at h; exact absurd h c
  have c0 : (numF 4 0 l).1 = 0 := by simpa using c
  cases hf : firstB (numF 4 0 l).2.1 with
  | true =>
    have hfn := of_decide_eq_true hf
    rw [byNum_pair l c0 hf] at h ⊢
    have ho := otherF_bd (numF 4 0 l).2.1 (numF 4 0 l).2.2 hfn.1 hfn.2
    by_cases d : (otherF (numF 4 0 l).2.1 (numF 4 0 l).2.2).1 ≠ 0
    · rw [if_pos d] at h; exact absurd h d
    · rw [if_neg d]
      have := ho.2 (by simpa using d)
      exact valid_rune _ (by omega) (by omega) (by omega)
  | false =>
    cases hs : secondB (numF 4 0 l).2.1 with
    | true => rw [byNum_sec l c0 hf hs] at h; simp at h
    | false =>
      rw [byNum_one l c0 hf hs]
      have h1 := of_decide_eq_false hf
      have h2 := of_decide_eq_false hs
      exact valid_rune _ (by omega) (by omega) (by omega)
theorem escF_valid (l : List UInt8) (h : (escF l).1 = 0) : validD (escF l).2.1 = true := by
  rcases l with _ | ⟨c, r⟩
  · simp [escF] at h
  · by_cases h117 : c = 117
    · subst h117
      exact byNumF_valid r h
    · clear h
      unfold escF
      dsimp only
      repeat' split
      all_goals first | (dsimp only; decide +kernel) | (exact absurd (by assumption) h117)
theorem chrF_valid (l : List UInt8) (h : (chrF l).1 = 0) : validD (chrF l).2.1 = true := by
  rcases l with _ | ⟨c, r⟩
  · simp [chrF] at h
  · have hb := escF_valid r
    unfold chrF at h ⊢
    dsimp only at h ⊢
    by_cases hc : c = 92
    · rw [if_pos hc] at h ⊢
      exact hb h
    · rw [if_neg hc] at h ⊢
      by_cases hd : c.toNat < 32 ∨ validD ((c :: r).take (chLen (c :: r))) = false
      · rw [if_pos hd] at h; simp at h
      · rw [if_neg hd]
        cases hv : validD ((c :: r).take (chLen (c :: r))) with
        | true => rfl
        | false => exact absurd (.inr hv) hd
theorem loopF_valid : ∀ (f : Nat) (l acc : List UInt8), validD acc = true → (loopF f l acc).1 = 0 → validD (loopF f l acc).2.1 = true ∧ (loopF f l acc).2.1.length + (loopF f l acc).2.2.length < acc.length + l.length
  | 0, l, acc, _, h => by simp [loopF] at h
  | f + 1, [], acc, _, h => by simp [loopF] at h
  | f + 1, c :: r, acc, hv, h => by
    rw [loopF] at h ⊢
    by_cases hc : c = 34
    · rw [if_pos hc]
      refine ⟨hv, ?_⟩
      dsimp only
      rw [List.length_cons]; omega
    · rw [if_neg hc] at h ⊢
      by_cases hx : (chrF (c :: r)).1 ≠ 0
      · rw [if_pos hx] at h; exact absurd h hx
      · rw [if_neg hx] at h ⊢
        have hx0 : (chrF (c :: r)).1 = 0 := by simpa using hx
        have hl := (chrF_len (c :: r) hx0).1
        have hva : validD (acc ++ (chrF (c :: r)).2.1) = true := by
          rw [validD_append _ _ _ (Nat.le_refl _) hv]; exact chrF_valid _ hx0
        have ih := loopF_valid f _ _ hva h
        rw [List.length_append] at ih
        exact ⟨ih.1, by omega⟩
theorem unqF_good (r : List UInt8) (h : (unqF (34 :: r)).2.2 = 0) : validD (unqF (34 :: r)).1 = true ∧ (unqF (34 :: r)).1.length ≤ 4096 ∧ (unqF (34 :: r)).1.length ≤ (unqF (34 :: r)).2.1 := by
  have hl := loopF_valid (r.length + 1) r [] rfl
  unfold unqF at h ⊢
  dsimp only at h ⊢
  rw [if_neg (by simp)] at h ⊢
  by_cases a : (loopF (r.length + 1) r []).1 ≠ 0
  · rw [if_pos a] at h; exact absurd h a
  rw [if_neg a] at h ⊢
  by_cases b : 4096 < (loopF (r.length + 1) r []).2.1.length
  · rw [if_pos b] at h; simp at h
  rw [if_neg b]
  have hk := hl (by simpa using a)
  refine ⟨hk.1, by dsimp only; omega, ?_⟩
  have h2 := hk.2
  dsimp only
  rw [List.length_cons]
  simp at h2
  omega
/-! ### digits -/
def digN (n : Nat) : List UInt8 := if n < 10 then [UInt8.ofNat (48 + n)] else digN (n / 10) ++ [UInt8.ofNat (48 + n % 10)]
decreasing_by omega
theorem digN_small (n : Nat) (h : n < 10) : digN n = [UInt8.ofNat (48 + n)] := by rw [digN, if_pos h]
theorem digN_great (n : Nat) (h : ¬ n < 10) : digN n = digN (n / 10) ++ [UInt8.ofNat (48 + n % 10)] := by rw [digN, if_neg h]
theorem dig_nat (k : Nat) (h : k < 10) : (UInt8.ofNat (48 + k)).toNat = 48 + k := by rw [UInt8.toNat_ofNat']; omega
theorem digN_facts : ∀ (m n : Nat), n ≤ m → (digN n ≠ [] ∧ (∀ c ∈ digN n, digB c = true) ∧ num (digN n) = n ∧ (n ≠ 0 → (digN n).head? ≠ some 48))
  | m, n, h => by
    by_cases hn : n < 10
    · rw [digN_small n hn]
      have hd := dig_nat n hn
      refine ⟨by simp, fun c hc => ?_, ?_, fun h0 e => ?_⟩
      · rw [List.mem_singleton] at hc; subst hc
        exact (digB_iff _).2 (by omega)
      · rw [num, numA_cons, hd]; simp [numA]
      · simp only [List.head?_cons, Option.some.injEq] at e
        rw [e] at hd
        have : (48 : UInt8).toNat = 48 := rfl
        omega
    · rw [digN_great n hn]
      have hd := dig_nat (n % 10) (by omega)
      rcases m with _ | m
      · omega
      obtain ⟨i1, i2, i3, i4⟩ := digN_facts m (n / 10) (by omega)
      refine ⟨by simp, fun c hc => ?_, ?_, fun h0 e => ?_⟩
      · rcases List.mem_append.1 hc with hc | hc
        · exact i2 c hc
        · rw [List.mem_singleton] at hc; subst hc
          exact (digB_iff _).2 (by omega)
      · have e : num (digN (n / 10) ++ [UInt8.ofNat (48 + n % 10)]) = num (digN (n / 10)) * 10 + ((UInt8.ofNat (48 + n % 10)).toNat - 48) := numA_snoc 0 _ _
        rw [e, hd, i3]; omega
      · refine i4 (by omega) ?_
        rw [List.head?_append] at e
        cases hh : (digN (n / 10)).head? with
        | none => exact absurd (List.head?_eq_none_iff.1 hh) i1
        | some x => rw [hh] at e; simpa using e
theorem digN_len : ∀ (k n : Nat), n < 10 ^ (k + 1) → (digN n).length ≤ k + 1
  | 0, n, h => by rw [digN_small n (by simpa using h)]; simp
  | k + 1, n, h => by
    by_cases hn : n < 10
    · rw [digN_small n hn]; simp
    · rw [digN_great n hn, List.length_append]
      have := digN_len k (n / 10) (by rw [Nat.pow_succ] at h; omega)
      simp; omega
theorem digN_digits (n : Nat) : digits (digN n) = true := by
  obtain ⟨h1, h2, h3, h4⟩ := digN_facts n n (Nat.le_refl _)
  refine (digits_iff _).2 ⟨h1, h2, ?_⟩
  by_cases h0 : n = 0
  · subst h0
    exact .inr (digN_small 0 (by omega))
  · exact .inl (h4 h0)
/-- A whole number's digits. -/
def decL (v : Int) : List UInt8 := if v < 0 then 45 :: digN v.natAbs else digN v.natAbs
theorem digN_plain (n : Nat) : (∀ r, digN n ≠ 45 :: r) := by
  intro r e
  have := (digN_facts n n (Nat.le_refl _)).2.1 45 (by rw [e]; simp)
  exact absurd this (by decide)
theorem minus_no' {l : List UInt8} (h : ∀ r, l ≠ 45 :: r) : minus l = false := by
  rcases l with _ | ⟨c, l⟩
  · rfl
  · show (c == 45) = false
    rw [beq_eq_false_iff_ne]
    rintro rfl
    exact h l rfl
theorem whole_dec (v : Int) (h0 : -9223372036854775808 ≤ v) (h1 : v ≤ 9223372036854775807) : wholeV (decL v) = v ∧ wholeE (decL v) = 0 := by
  have hd := digN_digits v.natAbs
  have hn := (digN_facts v.natAbs v.natAbs (Nat.le_refl _)).2.2.1
  by_cases hv : v < 0
  · have e : decL v = 45 :: digN v.natAbs := by rw [decL, if_pos hv]
    have hm : minus (45 :: digN v.natAbs) = true := rfl
    have hmo : most (45 :: digN v.natAbs) = 9223372036854775808 := by rw [most, hm]; rfl
    rw [e, wholeV, wholeE, behind_minus, hd, hn, hmo, hm, if_pos (show true = true ∧ v.natAbs ≤ 9223372036854775808 from ⟨rfl, by omega⟩), if_pos (show true = true from rfl), if_pos (show true = true from rfl), if_pos (show v.natAbs ≤ 9223372036854775808 by omega)]
    exact ⟨by omega, rfl⟩
  · have e : decL v = digN v.natAbs := by rw [decL, if_neg hv]
    have hm := minus_no' (digN_plain v.natAbs)
    have hmo : most (digN v.natAbs) = 9223372036854775807 := by rw [most, hm]; rfl
    rw [e, wholeV, wholeE, behind_other _ (digN_plain _), hd, hn, hmo, hm, if_pos (show true = true ∧ v.natAbs ≤ 9223372036854775807 from ⟨rfl, by omega⟩), if_neg (show ¬ (false = true) by simp), if_pos (show true = true from rfl), if_pos (show v.natAbs ≤ 9223372036854775807 by omega)]
    exact ⟨by omega, rfl⟩
theorem whole_bd (l : List UInt8) (h : wholeE l = 0) : -9223372036854775808 ≤ wholeV l ∧ wholeV l ≤ 9223372036854775807 := by
  unfold wholeE at h
  by_cases hd : digits (behind l) = true
  · rw [if_pos hd] at h
    by_cases hm : num (behind l) ≤ most l
    · rw [wholeV, if_pos ⟨hd, hm⟩]
      unfold most at hm
      cases hs : minus l with
      | true => rw [hs, if_pos rfl] at hm; rw [if_pos rfl]; omega
      | false => rw [hs, if_neg (by simp)] at hm; rw [if_neg (by simp)]; omega
    · rw [if_neg hm] at h; simp at h
  · rw [if_neg hd] at h; simp at h
theorem decL_len (v : Int) (h0 : -9223372036854775808 ≤ v) (h1 : v ≤ 9223372036854775807) : (decL v).length ≤ 20 := by
  have := digN_len 18 v.natAbs (by have : (10 : Nat) ^ 19 = 10000000000000000000 := rfl; omega)
  unfold decL
  split
  · simp; omega
  · omega
end Go.Proofs.YtajmhllldocpjaaDoor
