/-
  What the rows of a text are, as functions of its bytes. No call.
-/
import Derived.Lib.TrimByte
import Derived.Lib.Bytealg
namespace Go.Proofs.YtmenbgdkokegaaaDoor

/-! ### lines -/
def lnsA : List UInt8 → List UInt8 → List (List UInt8)
  | cur, [] => [cur]
  | cur, c :: r => if c = 10 then cur :: lnsA [] r else lnsA (cur ++ [c]) r
theorem lnsA_none : ∀ (a cur : List UInt8), (∀ c ∈ a, c ≠ 10) → lnsA cur a = [cur ++ a]
  | [], cur, _ => by simp [lnsA]
  | c :: r, cur, h => by
    rw [lnsA, if_neg (h c (by simp)), lnsA_none r _ (fun d hd => h d (by simp [hd]))]
    simp
theorem lnsA_cut : ∀ (a b cur : List UInt8), (∀ c ∈ a, c ≠ 10) → lnsA cur (a ++ 10 :: b) = (cur ++ a) :: lnsA [] b
  | [], b, cur, _ => by simp [lnsA]
  | c :: r, b, cur, h => by
    rw [List.cons_append, lnsA, if_neg (h c (by simp)), lnsA_cut r b _ (fun d hd => h d (by simp [hd]))]
    simp
theorem lnsA_ne (cur l : List UInt8) : lnsA cur l ≠ [] := by
  induction l generalizing cur with
  | nil => simp [lnsA]
  | cons c r ih =>
    rw [lnsA]
    split
    · simp
    · exact ih _
theorem lnsA_len (cur l : List UInt8) : (lnsA cur l).length ≤ l.length + 1 := by
  induction l generalizing cur with
  | nil => simp [lnsA]
  | cons c r ih =>
    rw [lnsA]
    split
    · have := ih []
      simp; omega
    · have := ih (cur ++ [c])
      simp; omega
/-- Where the first line ends. -/
theorem indexByte_none : ∀ (l : List UInt8) (c : UInt8), Go.Lib.indexByte l c = -1 → ∀ d ∈ l, d ≠ c
  | [], _, _, d, hd => by simp at hd
  | b :: l, c, h, d, hd => by
    have ge := Go.Lib.indexByte_ge l c
    unfold Go.Lib.indexByte at h
    by_cases hb : (b == c) = true
    · rw [if_pos hb] at h; omega
    · rw [if_neg hb] at h
      by_cases hx : (Go.Lib.indexByte l c == -1) = true
      · rcases List.mem_cons.1 hd with rfl | hd
        · simpa using hb
        · exact indexByte_none l c (by simpa using hx) d hd
      · rw [if_neg hx] at h
        have : Go.Lib.indexByte l c = -2 := by omega
        omega
theorem indexByte_some : ∀ (l : List UInt8) (c : UInt8) (k : Nat), Go.Lib.indexByte l c = k → k < l.length ∧ l = l.take k ++ c :: l.drop (k + 1) ∧ ∀ d ∈ l.take k, d ≠ c
  | [], _, k, h => by simp [Go.Lib.indexByte] at h
  | b :: l, c, k, h => by
    unfold Go.Lib.indexByte at h
    by_cases hb : (b == c) = true
    · rw [if_pos hb] at h
      obtain rfl : k = 0 := by omega
      have : b = c := by simpa using hb
      subst this
      simp
    · rw [if_neg hb] at h
      by_cases hx : (Go.Lib.indexByte l c == -1) = true
      · rw [if_pos hx] at h; omega
      · rw [if_neg hx] at h
        have ge := Go.Lib.indexByte_ge l c
        have hx' : Go.Lib.indexByte l c ≠ -1 := by simpa using hx
        obtain ⟨j, rfl⟩ : ∃ j, k = j + 1 := ⟨k - 1, by omega⟩
        obtain ⟨h1, h2, h3⟩ := indexByte_some l c j (by omega)
        refine ⟨by simp; omega, ?_, ?_⟩
        · simp only [List.take_succ_cons, List.drop_succ_cons, List.cons_append]
          rw [← h2]
        · intro d hd
          rw [List.take_succ_cons] at hd
          rcases List.mem_cons.1 hd with rfl | hd
          · simpa using hb
          · exact h3 d hd
theorem indexByte_cases (l : List UInt8) (c : UInt8) : Go.Lib.indexByte l c = -1 ∨ ∃ k : Nat, Go.Lib.indexByte l c = k := by
  have := Go.Lib.indexByte_ge l c
  by_cases h : Go.Lib.indexByte l c = -1
  · exact .inl h
  · exact .inr ⟨(Go.Lib.indexByte l c).toNat, by omega⟩

/-! ### the remark -/
/-- From a place on: how many bytes stand ahead of the remark; none, if a quoted part doesn't end. q: within a quoted part; s: a byte that counts for nothing; b: the beginning, or a blank ahead. -/
def remA : Bool → Bool → Bool → List UInt8 → Option Nat
  | q, _, _, [] => if q then none else some 0
  | q, s, b, c :: r =>
    if s then (remA q false (c == 32) r).map (· + 1)
    else if c = 92 then (remA q q (c == 32) r).map (· + 1)
    else if c = 34 then (remA (!q) false (c == 32) r).map (· + 1)
    else if c = 35 ∧ q = false ∧ b = true then some 0
    else (remA q false (c == 32) r).map (· + 1)
def rem (l : List UInt8) : Option Nat := remA false false true l
def blank (l : List UInt8) (i : Nat) : Bool := i == 0 || l.getD (i - 1) 0 == 32
/-- What is still to be gone over at place i. -/
def RemAt (l : List UInt8) (q s : Bool) (i : Nat) : Prop := rem l = (remA q s (blank l i) (l.drop i)).map (· + i)
theorem remAt_zero (l : List UInt8) : RemAt l false false 0 := by
  unfold RemAt rem blank
  simp
theorem blank_succ (l : List UInt8) (i : Nat) (h : i < l.length) : blank l (i + 1) = (l[i] == 32) := by
  unfold blank
  simp [List.getD_eq_getElem?_getD, h]
theorem map_add (o : Option Nat) (i : Nat) : (o.map (· + 1)).map (· + i) = o.map (· + (i + 1)) := by
  cases o with
  | none => rfl
  | some a => simp; omega
theorem remAt_skip {l : List UInt8} {q : Bool} {i : Nat} (h : i < l.length) (H : RemAt l q true i) : RemAt l q false (i + 1) := by
  unfold RemAt at *
  rw [H, List.drop_eq_getElem_cons h, remA, if_pos rfl, map_add, blank_succ l i h]
theorem remAt_back {l : List UInt8} {q : Bool} {i : Nat} (h : i < l.length) (e : l[i] = 92) (H : RemAt l q false i) : RemAt l q q (i + 1) := by
  unfold RemAt at *
  rw [H, List.drop_eq_getElem_cons h, remA, if_neg (by simp), if_pos e, map_add, blank_succ l i h]
theorem remAt_quote {l : List UInt8} {q : Bool} {i : Nat} (h : i < l.length) (e : l[i] = 34) (H : RemAt l q false i) : RemAt l (!q) false (i + 1) := by
  unfold RemAt at *
  rw [H, List.drop_eq_getElem_cons h, remA, if_neg (by simp), if_neg (by rw [e]; decide), if_pos e, map_add, blank_succ l i h]
theorem remAt_hash {l : List UInt8} {i : Nat} (h : i < l.length) (e : l[i] = 35) (hb : blank l i = true) (H : RemAt l false false i) : rem l = some i := by
  unfold RemAt at *
  rw [H, List.drop_eq_getElem_cons h, remA, if_neg (by simp), if_neg (by rw [e]; decide), if_neg (by rw [e]; decide), if_pos ⟨e, rfl, hb⟩]
  simp
theorem remAt_other {l : List UInt8} {q : Bool} {i : Nat} (h : i < l.length) (e1 : l[i] ≠ 92) (e2 : l[i] ≠ 34) (e3 : ¬ (l[i] = 35 ∧ q = false ∧ blank l i = true)) (H : RemAt l q false i) : RemAt l q false (i + 1) := by
  unfold RemAt at *
  rw [H, List.drop_eq_getElem_cons h, remA, if_neg (by simp), if_neg e1, if_neg e2, if_neg e3, map_add, blank_succ l i h]
theorem remAt_end {l : List UInt8} {q s : Bool} {i : Nat} (h : l.length ≤ i) (hi : i = l.length) (H : RemAt l q s i) : rem l = if q then none else some l.length := by
  unfold RemAt at *
  subst hi
  rw [H, List.drop_eq_nil_of_le h, remA]
  cases q <;> simp
/-- In a quoted part what is behind the end is nothing, too. -/
theorem remAt_over {l : List UInt8} {i : Nat} (h : l.length ≤ i) (H : RemAt l true false i) : rem l = none := by
  unfold RemAt at *
  rw [H, List.drop_eq_nil_of_le h, remA]
  simp
theorem remAt_two {l : List UInt8} {i : Nat} (h : i < l.length) (e : l[i] = 92) (H : RemAt l true false i) : RemAt l true false (i + 2) := by
  have H1 := remAt_back h e H
  by_cases h1 : i + 1 < l.length
  · exact remAt_skip h1 H1
  · unfold RemAt at *
    rw [List.drop_eq_nil_of_le (by omega), remA] at H1
    rw [List.drop_eq_nil_of_le (by omega), remA, H1]
    simp
theorem rem_le (l : List UInt8) (k : Nat) (h : rem l = some k) : k ≤ l.length := by
  have aux : ∀ (l : List UInt8) (q s b : Bool) (k : Nat), remA q s b l = some k → k ≤ l.length := by
    intro l
    induction l with
    | nil =>
      intro q s b k h
      rw [remA] at h
      cases q <;> simp at h
      simp; omega
    | cons c r ih =>
      intro q s b k h
      have step : ∀ q' s' b', (remA q' s' b' r).map (· + 1) = some k → k ≤ (c :: r).length := by
        intro q' s' b' h
        obtain ⟨j, hj, rfl⟩ := Option.map_eq_some_iff.1 h
        have := ih _ _ _ _ hj
        simp; omega
      rw [remA] at h
      split at h
      · exact step _ _ _ h
      · split at h
        · exact step _ _ _ h
        · split at h
          · exact step _ _ _ h
          · split at h
            · cases h; simp
            · exact step _ _ _ h
  exact aux l _ _ _ k h

/-! ### rows -/
structure Rw where
  line : Nat
  indent : Nat
  dash : Bool
  text : List UInt8
def dashB (l : List UInt8) : Bool := l == [45] || [45, 32].isPrefixOf l
/-- The rows of what is left of a line from a place on. -/
def rowsS (n : Nat) : Nat → List UInt8 → List Rw
  | _, [] => []
  | a, c :: r => if c = 32 then rowsS n (a + 1) r
    else if dashB (c :: r) = true then ⟨n, a, true, []⟩ :: rowsS n (a + 1) r
    else [⟨n, a, false, c :: r⟩]
theorem rowsS_blank (n a : Nat) (l : List UInt8) (h : a < l.length) (e : l[a] = 32) : rowsS n a (l.drop a) = rowsS n (a + 1) (l.drop (a + 1)) := by
  rw [List.drop_eq_getElem_cons h, rowsS, if_pos e]
theorem rowsS_dash (n a : Nat) (l : List UInt8) (h : a < l.length) (e : dashB (l.drop a) = true) : rowsS n a (l.drop a) = ⟨n, a, true, []⟩ :: rowsS n (a + 1) (l.drop (a + 1)) := by
  have hd := List.drop_eq_getElem_cons h
  have hc : l[a] ≠ 32 := by
    intro hc
    rw [hd, hc] at e
    simp [dashB] at e
  rw [hd, rowsS, if_neg hc, ← hd, if_pos e]
theorem rowsS_text (n a : Nat) (l : List UInt8) (h : a < l.length) (hc : l[a] ≠ 32) (e : dashB (l.drop a) = false) : rowsS n a (l.drop a) = [⟨n, a, false, l.drop a⟩] := by
  have hd := List.drop_eq_getElem_cons h
  rw [hd, rowsS, if_neg hc, ← hd, e, if_neg (by simp)]
theorem rowsS_end (n a : Nat) (l : List UInt8) (h : l.length ≤ a) : rowsS n a (l.drop a) = [] := by
  rw [List.drop_eq_nil_of_le h, rowsS]
theorem rowsS_len (n : Nat) : ∀ (l : List UInt8) (a : Nat), (rowsS n a l).length ≤ l.length
  | [], a => by simp [rowsS]
  | c :: r, a => by
    have := rowsS_len n r (a + 1)
    rw [rowsS]
    split
    · simp; omega
    · split
      · simp; omega
      · simp
/-- How many blanks stand ahead. -/
def blanks (l : List UInt8) : Nat := (l.takeWhile (· == 32)).length
theorem blanks_le (l : List UInt8) : blanks l ≤ l.length := by
  unfold blanks
  exact (List.takeWhile_prefix _).length_le
theorem trimLeft_len (l : List UInt8) : (Go.Lib.trimLeftB l 32).length = l.length - blanks l := by
  unfold Go.Lib.trimLeftB blanks
  have := congrArg List.length (List.takeWhile_append_dropWhile (p := (· == (32 : UInt8))) (l := l))
  rw [List.length_append] at this
  omega
theorem rowsS_blanks (n : Nat) : ∀ (l : List UInt8) (a : Nat), rowsS n a l = rowsS n (a + blanks l) (l.drop (blanks l))
  | [], a => by simp [blanks]
  | c :: r, a => by
    by_cases hc : c = 32
    · subst hc
      have e : blanks (32 :: r) = blanks r + 1 := by simp [blanks]
      rw [rowsS, if_pos rfl, rowsS_blanks n r (a + 1), e, List.drop_succ_cons]
      congr 1
      omega
    · have e : blanks (c :: r) = 0 := by simp [blanks, hc]
      rw [e]; simp
theorem blanks_head (l : List UInt8) (h : blanks l < l.length) : (l.drop (blanks l))[0]? ≠ some 32 := by
  induction l with
  | nil => simp [blanks] at h
  | cons c r ih =>
    by_cases hc : c = 32
    · subst hc
      have e : blanks (32 :: r) = blanks r + 1 := by simp [blanks]
      rw [e] at h ⊢
      rw [List.drop_succ_cons]
      exact ih (by simpa using h)
    · have e : blanks (c :: r) = 0 := by simp [blanks, hc]
      rw [e]
      simpa using hc

/-! ### a whole text -/
def lowB (l : List UInt8) : Bool := l.any fun c => decide (c.toNat < 32)
variable (V : List UInt8 → Bool)
def badL (l : List UInt8) : Bool := lowB l || !V l
def cutA : Nat → List (List UInt8) → List Rw → List Rw × Nat × Int
  | _, [], acc => (acc, 0, 0)
  | n, l :: ls, acc => if badL V l = true then ([], n, 10) else match rem l with
    | none => ([], n, 11)
    | some k => cutA (n + 1) ls (acc ++ rowsS n 0 (Go.Lib.trimRightB (l.take k) 32))
theorem cutA_bad {n : Nat} {l : List UInt8} {ls : List (List UInt8)} {acc : List Rw} (h : badL V l = true) : cutA V n (l :: ls) acc = ([], n, 10) := by
  rw [cutA, if_pos h]
theorem cutA_end {n : Nat} {l : List UInt8} {ls : List (List UInt8)} {acc : List Rw} (h : badL V l = false) (hr : rem l = none) : cutA V n (l :: ls) acc = ([], n, 11) := by
  rw [cutA, if_neg (by rw [h]; simp), hr]
theorem cutA_step {n : Nat} {l : List UInt8} {ls : List (List UInt8)} {acc : List Rw} {k : Nat} (h : badL V l = false) (hr : rem l = some k) : cutA V n (l :: ls) acc = cutA V (n + 1) ls (acc ++ rowsS n 0 (Go.Lib.trimRightB (l.take k) 32)) := by
  rw [cutA, if_neg (by rw [h]; simp), hr]
def cutL (l : List UInt8) : List Rw × Nat × Int := cutA V 0 (lnsA [] l) []
end Go.Proofs.YtmenbgdkokegaaaDoor
namespace Go.Proofs.YtmenbgdkokegaaaDoor
theorem lowB_step (l : List UInt8) (i : Nat) (h : i < l.length) (hc : 32 ≤ l[i].toNat) (H : lowB l = lowB (l.drop i)) : lowB l = lowB (l.drop (i + 1)) := by
  rw [H, List.drop_eq_getElem_cons h, lowB, lowB, List.any_cons, decide_eq_false (by omega), Bool.false_or]
theorem lowB_hit (l : List UInt8) (i : Nat) (h : i < l.length) (hc : l[i].toNat < 32) (H : lowB l = lowB (l.drop i)) : lowB l = true := by
  rw [H, List.drop_eq_getElem_cons h, lowB, List.any_cons, decide_eq_true hc, Bool.true_or]
theorem lowB_end (l : List UInt8) (i : Nat) (h : l.length ≤ i) (H : lowB l = lowB (l.drop i)) : lowB l = false := by
  rw [H, List.drop_eq_nil_of_le h]; rfl
theorem badL_low (V : List UInt8 → Bool) {l : List UInt8} (h : lowB l = true) : badL V l = true := by
  rw [badL, h]; rfl
theorem badL_of (V : List UInt8 → Bool) {l : List UInt8} (h : lowB l = false) : badL V l = !V l := by
  rw [badL, h]; rfl
end Go.Proofs.YtmenbgdkokegaaaDoor
