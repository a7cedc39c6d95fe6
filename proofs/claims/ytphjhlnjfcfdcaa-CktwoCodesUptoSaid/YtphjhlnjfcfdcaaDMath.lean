/-
  Labels and names, as functions of their bytes. No call.
-/
import Derived.Lib.Bytealg
namespace Go.Proofs.Ytphjhlnjfcfdcaa

/-! ### what points part -/
def lnsA : List UInt8 → List UInt8 → List (List UInt8)
  | cur, [] => [cur]
  | cur, c :: r => if c = 46 then cur :: lnsA [] r else lnsA (cur ++ [c]) r
theorem lnsA_none : ∀ (a cur : List UInt8), (∀ c ∈ a, c ≠ 46) → lnsA cur a = [cur ++ a]
  | [], cur, _ => by simp [lnsA]
  | c :: r, cur, h => by
    rw [lnsA, if_neg (h c (by simp)), lnsA_none r _ (fun d hd => h d (by simp [hd]))]
    simp
theorem lnsA_cut : ∀ (a b cur : List UInt8), (∀ c ∈ a, c ≠ 46) → lnsA cur (a ++ 46 :: b) = (cur ++ a) :: lnsA [] b
  | [], b, cur, _ => by simp [lnsA]
  | c :: r, b, cur, h => by
    rw [List.cons_append, lnsA, if_neg (h c (by simp)), lnsA_cut r b _ (fun d hd => h d (by simp [hd]))]
    simp
theorem lnsA_ne (cur l : List UInt8) : lnsA cur l ≠ [] := by
  induction l generalizing cur with
  | nil => simp [lnsA]
  | cons c r ih =>
    rw [lnsA]
    split
    · simp
    · exact ih _
theorem lnsA_len (cur l : List UInt8) : (lnsA cur l).length ≤ l.length + 1 := by
  induction l generalizing cur with
  | nil => simp [lnsA]
  | cons c r ih =>
    rw [lnsA]
    split
    · have := ih []
      simp; omega
    · have := ih (cur ++ [c])
      simp; omega
theorem indexByte_none : ∀ (l : List UInt8) (c : UInt8), Go.Lib.indexByte l c = -1 → ∀ d ∈ l, d ≠ c
  | [], _, _, d, hd => by simp at hd
  | b :: l, c, h, d, hd => by
    have ge := Go.Lib.indexByte_ge l c
    unfold Go.Lib.indexByte at h
    by_cases hb : (b == c) = true
    · rw [if_pos hb] at h; omega
    · rw [if_neg hb] at h
      by_cases hx : (Go.Lib.indexByte l c == -1) = true
      · rcases List.mem_cons.1 hd with rfl | hd
        · simpa using hb
        · exact indexByte_none l c (by simpa using hx) d hd
      · rw [if_neg hx] at h
        have : Go.Lib.indexByte l c = -2 := by omega
        omega
theorem indexByte_some : ∀ (l : List UInt8) (c : UInt8) (k : Nat), Go.Lib.indexByte l c = k → k < l.length ∧ l = l.take k ++ c :: l.drop (k + 1) ∧ ∀ d ∈ l.take k, d ≠ c
  | [], _, k, h => by simp [Go.Lib.indexByte] at h
  | b :: l, c, k, h => by
    unfold Go.Lib.indexByte at h
    by_cases hb : (b == c) = true
    · rw [if_pos hb] at h
      obtain rfl : k = 0 := by omega
      have : b = c := by simpa using hb
      subst this
      simp
    · rw [if_neg hb] at h
      by_cases hx : (Go.Lib.indexByte l c == -1) = true
      · rw [if_pos hx] at h; omega
      · rw [if_neg hx] at h
        have ge := Go.Lib.indexByte_ge l c
        have hx' : Go.Lib.indexByte l c ≠ -1 := by simpa using hx
        obtain ⟨j, rfl⟩ : ∃ j, k = j + 1 := ⟨k - 1, by omega⟩
        obtain ⟨h1, h2, h3⟩ := indexByte_some l c j (by omega)
        refine ⟨by simp; omega, ?_, ?_⟩
        · simp only [List.take_succ_cons, List.drop_succ_cons, List.cons_append]
          rw [← h2]
        · intro d hd
          rw [List.take_succ_cons] at hd
          rcases List.mem_cons.1 hd with rfl | hd
          · simpa using hb
          · exact h3 d hd
theorem indexByte_cases (l : List UInt8) (c : UInt8) : Go.Lib.indexByte l c = -1 ∨ ∃ k : Nat, Go.Lib.indexByte l c = k := by
  have := Go.Lib.indexByte_ge l c
  by_cases h : Go.Lib.indexByte l c = -1
  · exact .inl h
  · exact .inr ⟨(Go.Lib.indexByte l c).toNat, by omega⟩


theorem lnsA_mem : ∀ (l c x : List UInt8), x ∈ lnsA c l → x.length ≤ c.length + l.length
  | [], c, x, h => by
    simp [lnsA] at h
    simp [h]
  | b :: r, c, x, h => by
    rw [lnsA] at h
    split at h
    · rcases List.mem_cons.1 h with rfl | h
      · omega
      · have := lnsA_mem r [] x h
        simp at this ⊢; omega
    · have := lnsA_mem r _ x h
      simp at this ⊢; omega
/-! ### which bytes may be -/
def smallB (c : UInt8) : Bool := decide (97 ≤ c.toNat) && decide (c.toNat ≤ 122)
def capB (c : UInt8) : Bool := decide (65 ≤ c.toNat) && decide (c.toNat ≤ 90)
def digB (c : UInt8) : Bool := decide (48 ≤ c.toNat) && decide (c.toNat ≤ 57)
def inL (c : UInt8) : Bool := smallB c || (digB c || c == 45)
def inV (c : UInt8) : Bool := smallB c || (capB c || (digB c || c == 95))
/-- A label. -/
def labB (l : List UInt8) : Bool := (decide (1 ≤ l.length) && decide (l.length ≤ 63)) && (l.head? != some 45 && (l.getLast? != some 45 && l.all inL))
/-- A name. -/
def nameB (l : List UInt8) : Bool := (decide (1 ≤ l.length) && decide (l.length ≤ 253)) && (lnsA [] l).all labB
theorem inL_point : inL 46 = false := by decide
theorem labB_point {l : List UInt8} (h : labB l = true) : ∀ c ∈ l, c ≠ 46 := fun c hc e => by
  unfold labB at h
  simp only [Bool.and_eq_true] at h
  have := List.all_eq_true.1 h.2.2.2 c hc
  rw [e, inL_point] at this
  cases this
theorem labB_len {l : List UInt8} (h : labB l = true) : 1 ≤ l.length ∧ l.length ≤ 63 := by
  unfold labB at h
  simp only [Bool.and_eq_true, decide_eq_true_eq] at h
  exact h.1
/-- Parts, a point between each two. -/
def joinF : List (List UInt8) → List UInt8
  | [] => []
  | x :: r => r.foldl (fun s p => s ++ (46 :: p)) x
theorem lnsA_app : ∀ (a b cur : List UInt8), lnsA cur (a ++ 46 :: b) = lnsA cur a ++ lnsA [] b
  | [], b, cur => by simp [lnsA]
  | c :: r, b, cur => by
    rw [List.cons_append, lnsA, lnsA]
    by_cases h : c = 46
    · rw [if_pos h, if_pos h, lnsA_app r b []]; rfl
    · rw [if_neg h, if_neg h, lnsA_app r b _]
theorem join_fold : ∀ (r : List (List UInt8)) (s t : List UInt8), r.foldl (fun s p => s ++ (46 :: p)) (s ++ t) = s ++ r.foldl (fun s p => s ++ (46 :: p)) t
  | [], s, t => rfl
  | x :: r, s, t => by
    simp only [List.foldl_cons]
    rw [List.append_assoc, join_fold r s]
theorem join_lns : ∀ (l cur : List UInt8), joinF (lnsA cur l) = cur ++ l
  | [], cur => by simp [lnsA, joinF]
  | c :: r, cur => by
    rw [lnsA]
    by_cases h : c = 46
    · subst h
      rw [if_pos rfl]
      have ih := join_lns r []
      rcases hx : lnsA [] r with _ | ⟨x, t⟩
      · exact absurd hx (lnsA_ne _ _)
      · rw [hx] at ih
        show (t.foldl (fun s p => s ++ (46 :: p)) (cur ++ (46 :: x))) = _
        rw [show cur ++ 46 :: x = (cur ++ [46]) ++ x by simp, join_fold]
        have ih' : t.foldl (fun s p => s ++ (46 :: p)) x = r := by simpa [joinF] using ih
        rw [ih']; simp
    · rw [if_neg h, join_lns r]
      simp
/-- What the law's own loop makes of the parts that have come. -/
theorem joinF_snoc (l : List (List UInt8)) (x : List UInt8) : joinF (l ++ [x]) = if l = [] then x else joinF l ++ (46 :: x) := by
  cases l with
  | nil => simp [joinF]
  | cons y r => simp [joinF]
/-- One part: a label. -/
theorem one_label {l : List UInt8} (h : nameB l = true) : (decide ((lnsA [] l).length = 1)) = labB l := by
  unfold nameB at h
  simp only [Bool.and_eq_true] at h
  have hall := h.2
  cases hl : labB l with
  | true =>
    rw [lnsA_none l [] (labB_point hl)]
    simp
  | false =>
    rw [decide_eq_false_iff_not]
    intro h1
    have hj := join_lns l []
    rcases hx : lnsA [] l with _ | ⟨x, t⟩
    · exact absurd hx (lnsA_ne _ _)
    · rw [hx] at h1 hall hj
      obtain rfl : t = [] := by
        simpa using h1
      have : x = l := by simpa [joinF] using hj
      subst this
      simp [hl] at hall
/-- Two names, a point between. -/
theorem both_names (a b : List UInt8) (h : a.length + 1 + b.length ≤ 253) : nameB (a ++ 46 :: b) = (nameB a && nameB b) := by
  have key : ∀ l : List UInt8, l.length ≤ 253 → nameB l = (lnsA [] l).all labB := fun l hl => by
    unfold nameB
    cases l with
    | nil => simp [lnsA, labB]
    | cons c r =>
      rw [decide_eq_true (by simp), decide_eq_true hl]
      simp
  rw [key _ (by simp; omega), key a (by omega), key b (by omega), lnsA_app, List.all_append]
end Go.Proofs.Ytphjhlnjfcfdcaa
