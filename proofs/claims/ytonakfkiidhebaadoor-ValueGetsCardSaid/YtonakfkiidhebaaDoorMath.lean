/-
  Values as trees, and what package value and the document say of them: plain mathematics, nothing of the program.
-/
import Derived.Lib.ValidLaws
namespace Go.Proofs.YtonakfkiidhebaaDoor

inductive V where
  | mk (kind : Int) (flag : Bool) (num : Int) (text : ByteArray) (list : List V) (keys : List (ByteArray × V))
def V.kind : V → Int | .mk k _ _ _ _ _ => k
def V.flag : V → Bool | .mk _ f _ _ _ _ => f
def V.num : V → Int | .mk _ _ n _ _ _ => n
def V.text : V → ByteArray | .mk _ _ _ s _ _ => s
def V.list : V → List V | .mk _ _ _ _ l _ => l
def V.keys : V → List (ByteArray × V) | .mk _ _ _ _ _ ks => ks
/-- The values in a value. -/
def V.inside (v : V) : List V := if v.kind = 4 then v.list else if v.kind = 5 then v.keys.map (·.2) else []
def V.holds (v : V) : Bool := decide (v.kind = 4 ∨ v.kind = 5)

mutual
def V.size : V → Nat
  | .mk _ _ _ _ l ks => 1 + (sizeL l + sizeK ks)
def sizeL : List V → Nat
  | [] => 0
  | v :: l => v.size + sizeL l
def sizeK : List (ByteArray × V) → Nat
  | [] => 0
  | (_, v) :: l => v.size + sizeK l
end
theorem sizeK_eq (ks : List (ByteArray × V)) : sizeK ks = sizeL (ks.map (·.2)) := by
  induction ks with
  | nil => rfl
  | cons k ks ih => obtain ⟨s, v⟩ := k; simp only [sizeK, List.map_cons, sizeL, ih]
theorem V.size_eq (v : V) : v.size = 1 + (sizeL v.list + sizeL (v.keys.map (·.2))) := by
  obtain ⟨k, f, n, s, l, ks⟩ := v
  simp only [V.size, V.list, V.keys, sizeK_eq]
theorem V.size_pos (v : V) : 0 < v.size := by rw [V.size_eq]; omega
theorem size_inside (v : V) : sizeL v.inside < v.size := by
  rw [V.size_eq]
  unfold V.inside
  split
  · omega
  split
  · omega
  · simp only [sizeL]; omega
theorem size_mem {v : V} {l : List V} (h : v ∈ l) : v.size ≤ sizeL l := by
  induction l with
  | nil => cases h
  | cons a l ih =>
    simp only [sizeL]
    rcases List.mem_cons.1 h with rfl | h
    · omega
    · have := ih h; omega
theorem length_le_size (l : List V) : l.length ≤ sizeL l := by
  induction l with
  | nil => exact Nat.zero_le _
  | cons a l ih => have := a.size_pos; simp only [sizeL, List.length_cons]; omega

/-! ### how deep -/
mutual
def V.depth : V → Nat
  | .mk k _ _ _ l ks => if k = 4 then depthL l + 1 else if k = 5 then depthK ks + 1 else 0
def depthL : List V → Nat
  | [] => 0
  | v :: l => max v.depth (depthL l)
def depthK : List (ByteArray × V) → Nat
  | [] => 0
  | (_, v) :: l => max v.depth (depthK l)
end
theorem depthK_eq (ks : List (ByteArray × V)) : depthK ks = depthL (ks.map (·.2)) := by
  induction ks with
  | nil => rfl
  | cons k ks ih => obtain ⟨s, v⟩ := k; simp only [depthK, List.map_cons, depthL, ih]
theorem V.depth_holds {v : V} (h : v.holds = true) : v.depth = depthL v.inside + 1 := by
  obtain ⟨k, f, n, s, l, ks⟩ := v
  have h' : k = 4 ∨ k = 5 := of_decide_eq_true h
  rcases h' with rfl | rfl
  · simp [V.depth, V.inside, V.kind, V.list]
  · simp [V.depth, V.inside, V.kind, V.keys, depthK_eq]
theorem V.depth_not {v : V} (h : v.holds = false) : v.depth = 0 := by
  obtain ⟨k, f, n, s, l, ks⟩ := v
  have h' : ¬ (k = 4 ∨ k = 5) := of_decide_eq_false h
  simp only [V.depth]
  rw [if_neg (by omega), if_neg (by omega)]
theorem inside_not {v : V} (h : v.holds = false) : v.inside = [] := by
  simp only [V.holds, decide_eq_false_iff_not] at h
  unfold V.inside
  rw [if_neg (by omega), if_neg (by omega)]
theorem depthL_lt (l : List V) (n : Nat) : n < depthL l ↔ ∃ v ∈ l, n < v.depth := by
  induction l with
  | nil => simp [depthL]
  | cons a l ih =>
    simp only [depthL, List.mem_cons, exists_eq_or_imp]
    rw [← ih]; omega
theorem depthL_append (l m : List V) : depthL (l ++ m) = max (depthL l) (depthL m) := by
  induction l with
  | nil => simp [depthL]
  | cons a l ih => simp only [List.cons_append, depthL, ih]; omega
theorem depth_le (n : Nat) : ∀ v : V, v.size ≤ n → v.depth ≤ v.size := by
  induction n with
  | zero => intro v hv; have := v.size_pos; omega
  | succ n ih =>
    intro v hv
    cases h : v.holds with
    | false => rw [v.depth_not h]; omega
    | true =>
      rw [v.depth_holds h]
      have hs := size_inside v
      rcases Nat.eq_zero_or_pos (depthL v.inside) with h0 | h0
      · have := v.size_pos; omega
      · obtain ⟨x, hx, hd⟩ := (depthL_lt v.inside (depthL v.inside - 1)).1 (by omega)
        have h1 := size_mem hx
        have := ih x (by omega)
        omega
theorem V.depth_size (v : V) : v.depth ≤ v.size := depth_le v.size v (Nat.le_refl _)

/-! What is left to look at: values that hold others, and their levels. -/
def bnd : List (V × Nat) → Nat
  | [] => 0
  | (v, n) :: l => max (n - 1 + v.depth) (bnd l)
theorem bnd_append (l m : List (V × Nat)) : bnd (l ++ m) = max (bnd l) (bnd m) := by
  induction l with
  | nil => simp [bnd]
  | cons a l ih => obtain ⟨v, n⟩ := a; simp only [List.cons_append, bnd, ih]; omega
theorem bnd_mem {l : List (V × Nat)} {v : V} {n : Nat} (h : (v, n) ∈ l) : n - 1 + v.depth ≤ bnd l := by
  induction l with
  | nil => cases h
  | cons a l ih =>
    obtain ⟨x, k⟩ := a
    simp only [bnd]
    rcases List.mem_cons.1 h with h | h
    · cases h; omega
    · have := ih h; omega
def pushed (l : List V) (n : Nat) : List (V × Nat) := (l.filter V.holds).map fun v => (v, n)
theorem pushed_cons (v : V) (l : List V) (n : Nat) : pushed (v :: l) n = (if v.holds = true then [(v, n)] else []) ++ pushed l n := by
  unfold pushed
  cases h : v.holds <;> simp [h]
theorem pushed_snoc (l : List V) (v : V) (n : Nat) : pushed (l ++ [v]) n = pushed l n ++ (if v.holds = true then [(v, n)] else []) := by
  unfold pushed
  rw [List.filter_append, List.map_append]
  cases h : v.holds <;> simp [h]
theorem bnd_pushed (l : List V) (n : Nat) : max n (bnd (pushed l (n + 1))) = n + depthL l := by
  induction l with
  | nil => simp [pushed, bnd, depthL]
  | cons v l ih =>
    rw [pushed_cons, bnd_append]
    simp only [depthL]
    cases h : v.holds with
    | false => rw [v.depth_not h]; simp [bnd]; omega
    | true => simp only [if_true, bnd]; omega
theorem bnd_step (l : List (V × Nat)) (v : V) (n d : Nat) (h : v.holds = true) (hn : 1 ≤ n) : max d (bnd (l ++ [(v, n)])) = max (max d n) (bnd (l ++ pushed v.inside (n + 1))) := by
  have := bnd_pushed v.inside n
  rw [bnd_append, bnd_append]
  simp only [bnd]
  rw [v.depth_holds h]
  omega
def szs : List (V × Nat) → Nat
  | [] => 0
  | (v, _) :: l => v.size + szs l
theorem szs_append (l m : List (V × Nat)) : szs (l ++ m) = szs l + szs m := by
  induction l with
  | nil => simp [szs]
  | cons a l ih => obtain ⟨v, n⟩ := a; simp only [List.cons_append, szs, ih]; omega
theorem szs_pushed (l : List V) (n : Nat) : szs (pushed l n) ≤ sizeL l := by
  induction l with
  | nil => exact Nat.le_refl _
  | cons v l ih =>
    rw [pushed_cons, szs_append]
    simp only [sizeL]
    cases h : v.holds with
    | false => simp [szs]; omega
    | true => simp only [if_true, szs]; omega
theorem szs_length (l : List (V × Nat)) : l.length ≤ szs l := by
  induction l with
  | nil => exact Nat.le_refl _
  | cons a l ih => obtain ⟨v, n⟩ := a; have := v.size_pos; simp only [szs, List.length_cons]; omega
theorem szs_step (l : List (V × Nat)) (v : V) (n k : Nat) : szs (l ++ pushed v.inside k) < szs (l ++ [(v, n)]) := by
  rw [szs_append, szs_append]
  have := szs_pushed v.inside k
  have := size_inside v
  simp only [szs]; omega

/-! ### alike -/
mutual
def V.same : V → V → Bool
  | .mk k f n s l ks, .mk k' f' n' s' l' ks' => decide (k = k') && (decide (k ≠ 1 ∨ f = f') && (decide (k ≠ 2 ∨ n = n') && (decide (k ≠ 3 ∨ s = s') && ((decide (k ≠ 4) || sameL l l') && (decide (k ≠ 5) || sameK ks ks')))))
def sameL : List V → List V → Bool
  | [], [] => true
  | v :: l, w :: m => v.same w && sameL l m
  | [], _ :: _ => false
  | _ :: _, [] => false
def sameK : List (ByteArray × V) → List (ByteArray × V) → Bool
  | [], [] => true
  | (s, v) :: l, (t, w) :: m => decide (s = t) && (v.same w && sameK l m)
  | [], _ :: _ => false
  | _ :: _, [] => false
end
/-- Alike but for the values inside. -/
def V.alike (v w : V) : Bool := decide (v.kind = w.kind ∧ (v.kind ≠ 1 ∨ v.flag = w.flag) ∧ (v.kind ≠ 2 ∨ v.num = w.num) ∧ (v.kind ≠ 3 ∨ v.text = w.text) ∧ (v.kind ≠ 5 ∨ v.keys.map (·.1) = w.keys.map (·.1)))
theorem sameK_eq : ∀ (l m : List (ByteArray × V)), sameK l m = (decide (l.map (·.1) = m.map (·.1)) && sameL (l.map (·.2)) (m.map (·.2)))
  | [], [] => by simp [sameK, sameL]
  | (s, v) :: l, (t, w) :: m => by
    simp only [sameK, List.map_cons, sameL, sameK_eq l m, List.cons.injEq]
    by_cases h : s = t <;> by_cases h2 : l.map (·.1) = m.map (·.1) <;> simp [h, h2]
  | [], _ :: _ => by simp [sameK]
  | _ :: _, [] => by simp [sameK]
def sin (v w : V) : Bool := sameL v.inside w.inside
theorem same_eq (v w : V) : v.same w = (v.alike w && sin v w) := by
  obtain ⟨k, f, n, s, l, ks⟩ := v
  obtain ⟨k', f', n', s', l', ks'⟩ := w
  simp only [V.same, V.alike, sin, V.inside, V.kind, V.flag, V.num, V.text, V.list, V.keys, sameK_eq]
  by_cases hk : k = k'
  · subst hk
    by_cases h4 : k = 4
    · subst h4; simp
    · by_cases h5 : k = 5
      · subst h5; simp
      · simp [h4, h5, sameL]
  · simp [hk]
theorem sin_not {v w : V} (hv : v.holds = false) (hw : w.kind = v.kind) : sin v w = true := by
  unfold sin
  rw [inside_not hv, inside_not (by unfold V.holds at hv ⊢; rw [hw]; exact hv)]
  rfl
theorem alike_kind {v w : V} (h : v.alike w = true) : w.kind = v.kind := by
  unfold V.alike at h
  exact (of_decide_eq_true h).1.symm
def alikeL : List V → List V → Bool
  | [], [] => true
  | v :: l, w :: m => v.alike w && alikeL l m
  | [], _ :: _ => false
  | _ :: _, [] => false
theorem alikeL_length : ∀ {l m : List V}, alikeL l m = true → l.length = m.length
  | [], [], _ => rfl
  | v :: l, w :: m, h => by
    simp only [alikeL, Bool.and_eq_true] at h
    simp [alikeL_length h.2]
  | [], _ :: _, h => by cases h
  | _ :: _, [], h => by cases h
theorem alikeL_parted {l m : List V} (h : l.length ≠ m.length) : alikeL l m = false := by
  cases e : alikeL l m with
  | false => rfl
  | true => exact absurd (alikeL_length e) h
theorem alikeL_drop (l m : List V) (k : Nat) (hl : k < l.length) (hm : k < m.length) : alikeL (l.drop k) (m.drop k) = (l[k].alike m[k] && alikeL (l.drop (k + 1)) (m.drop (k + 1))) := by
  rw [List.drop_eq_getElem_cons hl, List.drop_eq_getElem_cons hm, alikeL]
def allS (l : List (V × V)) : Bool := l.all fun p => sin p.1 p.2
theorem allS_append (l m : List (V × V)) : allS (l ++ m) = (allS l && allS m) := by simp [allS]
def pushed2 (l m : List V) : List (V × V) := (l.zip m).filter fun p => p.1.holds
theorem sameL_alike : ∀ (l m : List V), sameL l m = (alikeL l m && allS (pushed2 l m))
  | [], [] => rfl
  | v :: l, w :: m => by
    simp only [sameL, alikeL, same_eq, sameL_alike l m, pushed2, List.zip_cons_cons]
    cases ha : v.alike w with
    | false => simp
    | true =>
      cases hv : v.holds with
      | false => rw [sin_not hv (alike_kind ha)]; simp [hv]
      | true =>
        simp only [List.filter_cons, hv, if_true, allS, List.all_cons, Bool.true_and]
        cases sin v w <;> cases alikeL l m <;> rfl
  | [], _ :: _ => rfl
  | _ :: _, [] => rfl
theorem pushed2_take (l m : List V) (k : Nat) (hl : k < l.length) (hm : k < m.length) : pushed2 (l.take (k + 1)) (m.take (k + 1)) = pushed2 (l.take k) (m.take k) ++ if l[k].holds = true then [(l[k], m[k])] else [] := by
  unfold pushed2
  rw [List.take_succ_eq_append_getElem hl, List.take_succ_eq_append_getElem hm, List.zip_append (by simp; omega), List.filter_append]
  cases h : l[k].holds <;> simp [h]
def szs2 : List (V × V) → Nat
  | [] => 0
  | (v, _) :: l => v.size + szs2 l
theorem szs2_append (l m : List (V × V)) : szs2 (l ++ m) = szs2 l + szs2 m := by
  induction l with
  | nil => simp [szs2]
  | cons a l ih => obtain ⟨v, n⟩ := a; simp only [List.cons_append, szs2, ih]; omega
theorem szs2_pushed : ∀ (l m : List V), szs2 (pushed2 l m) ≤ sizeL l
  | [], _ => by simp [pushed2, szs2]
  | v :: l, [] => by simp [pushed2, szs2]
  | v :: l, w :: m => by
    have ih := szs2_pushed l m
    unfold pushed2 at ih ⊢
    simp only [List.zip_cons_cons, List.filter_cons, sizeL]
    cases h : v.holds with
    | false => simp; omega
    | true => simp only [if_true, szs2]; omega
theorem szs2_length (l : List (V × V)) : l.length ≤ szs2 l := by
  induction l with
  | nil => exact Nat.le_refl _
  | cons a l ih => obtain ⟨v, n⟩ := a; have := v.size_pos; simp only [szs2, List.length_cons]; omega
theorem szs2_step (l : List (V × V)) (v w : V) (m : List V) : szs2 (l ++ pushed2 v.inside m) < szs2 (l ++ [(v, w)]) := by
  rw [szs2_append, szs2_append]
  have := szs2_pushed v.inside m
  have := size_inside v
  simp only [szs2]; omega
theorem allS_step {l : List (V × V)} {v w : V} (h : alikeL v.inside w.inside = true) : allS (l ++ [(v, w)]) = allS (l ++ pushed2 v.inside w.inside) := by
  rw [allS_append, allS_append]
  congr 1
  show (sin v w && true) = _
  rw [Bool.and_true]
  unfold sin
  rw [sameL_alike, h, Bool.true_and]
theorem allS_parted {l : List (V × V)} {v w : V} (h : alikeL v.inside w.inside = false) : allS (l ++ [(v, w)]) = false := by
  rw [allS_append]
  show (allS l && (sin v w && true)) = _
  unfold sin
  rw [sameL_alike, h]
  simp
mutual
theorem V.same_refl : ∀ v : V, v.same v = true
  | .mk k f n s l ks => by simp [V.same, sameL_refl l, sameK_refl ks]
theorem sameL_refl : ∀ l : List V, sameL l l = true
  | [] => rfl
  | v :: l => by simp [sameL, V.same_refl v, sameL_refl l]
theorem sameK_refl : ∀ l : List (ByteArray × V), sameK l l = true
  | [] => rfl
  | (s, v) :: l => by simp [sameK, V.same_refl v, sameK_refl l]
end

/-! ### what is wrong -/
def textW (s : ByteArray) : Int := if Lib.validD s.data.toList = true then (if 4096 < s.size then 2 else 0) else 10
def textsW : List ByteArray → Int
  | [] => 0
  | s :: l => if textW s ≠ 0 then textW s else textsW l
def keysW (l : List ByteArray) : Int := if textsW l ≠ 0 then textsW l else if l.Nodup then 0 else 8
def V.own (v : V) : Int := if v.kind < 0 ∨ 5 < v.kind then 15 else if v.kind = 3 then textW v.text else if v.kind = 5 then keysW (v.keys.map (·.1)) else 0
mutual
def V.wrong : V → Int
  | .mk k f n s l ks => if (V.mk k f n s l ks).own ≠ 0 then (V.mk k f n s l ks).own else if k = 4 then wrongL l else if k = 5 then wrongK ks else 0
def wrongL : List V → Int
  | [] => 0
  | v :: l => if v.wrong ≠ 0 then v.wrong else wrongL l
def wrongK : List (ByteArray × V) → Int
  | [] => 0
  | (_, v) :: l => if v.wrong ≠ 0 then v.wrong else wrongK l
end
theorem wrongK_eq (ks : List (ByteArray × V)) : wrongK ks = wrongL (ks.map (·.2)) := by
  induction ks with
  | nil => rfl
  | cons k ks ih => obtain ⟨s, v⟩ := k; simp only [wrongK, List.map_cons, wrongL, ih]
theorem wrong_eq (v : V) : v.wrong = if v.own ≠ 0 then v.own else wrongL v.inside := by
  obtain ⟨k, f, n, s, l, ks⟩ := v
  simp only [V.wrong, V.inside, V.kind, V.list, V.keys, wrongK_eq]
  split
  · rfl
  by_cases h4 : k = 4
  · subst h4; simp
  by_cases h5 : k = 5
  · subst h5; simp
  · simp [h4, h5, wrongL]
theorem wrongL_drop (l : List V) (k : Nat) (h : k < l.length) : wrongL (l.drop k) = if l[k].wrong ≠ 0 then l[k].wrong else wrongL (l.drop (k + 1)) := by
  rw [List.drop_eq_getElem_cons h, wrongL]
theorem textsW_drop (l : List ByteArray) (k : Nat) (h : k < l.length) : textsW (l.drop k) = if textW l[k] ≠ 0 then textW l[k] else textsW (l.drop (k + 1)) := by
  rw [List.drop_eq_getElem_cons h, textsW]
def V.check (v : V) : Int := if 32 < v.depth then 9 else v.wrong
theorem textW_bd (s : ByteArray) : 0 ≤ textW s ∧ textW s ≤ 100 := by unfold textW; repeat' split <;> omega
theorem textsW_bd : ∀ l : List ByteArray, 0 ≤ textsW l ∧ textsW l ≤ 100
  | [] => by simp [textsW]
  | s :: l => by
    have := textW_bd s
    have := textsW_bd l
    simp only [textsW]; split <;> omega
theorem own_bd (v : V) : 0 ≤ v.own ∧ v.own ≤ 100 := by
  have := textW_bd v.text
  have := textsW_bd (v.keys.map (·.1))
  unfold V.own keysW
  repeat' split
  all_goals omega

/-! ### a key's value -/
def V.get (v : V) (name : ByteArray) : Option V := if v.kind = 5 then (v.keys.find? fun p => decide (p.1 = name)).map (·.2) else none
end Go.Proofs.YtonakfkiidhebaaDoor
