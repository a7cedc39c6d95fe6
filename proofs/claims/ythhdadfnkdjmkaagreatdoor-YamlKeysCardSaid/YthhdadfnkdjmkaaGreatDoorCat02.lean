/-
  Values as trees, and what package value and the document say of them: plain mathematics, nothing of the program.
  How a value (package value's, and the document's) lies in memory. Plain facts, no call.
  Package yaml's reader: how it lies in memory; its shortest methods.
-/
import Derived.Lib.ValidLaws
import Derived.Test.YthhdadfnkdjmkaaGreatDoorRows
import Derived.WalkKit
import Derived.ProofKit
import Derived.OpenShut
import Derived.ShutString
import Derived.WalkSpells
import Derived.WalkLawsBesides
import Derived.LoopTactic
import Derived.Lib.Hide
import Derived.Below
import Derived.Deep.OwnRows
import Derived.Deep.AppendLies
import Derived.Deep.QuietTactic
import Derived.BigQuiet
import Derived.Deep.LoopGhost
import Derived.Deep.Draws
import Derived.Test.YthhdadfnkdjmkaaGreatDoorCat01
namespace Go.Proofs.YthhdadfnkdjmkaaGreatDoor.v

inductive V where
  | mk (kind : Int) (flag : Bool) (num : Int) (text : ByteArray) (list : List V) (keys : List (ByteArray × V))
def V.kind : V → Int | .mk k _ _ _ _ _ => k
def V.flag : V → Bool | .mk _ f _ _ _ _ => f
def V.num : V → Int | .mk _ _ n _ _ _ => n
def V.text : V → ByteArray | .mk _ _ _ s _ _ => s
def V.list : V → List V | .mk _ _ _ _ l _ => l
def V.keys : V → List (ByteArray × V) | .mk _ _ _ _ _ ks => ks
/-- The values in a value. -/
def V.inside (v : V) : List V := if v.kind = 4 then v.list else if v.kind = 5 then v.keys.map (·.2) else []
def V.holds (v : V) : Bool := decide (v.kind = 4 ∨ v.kind = 5)

mutual
def V.size : V → Nat
  | .mk _ _ _ _ l ks => 1 + (sizeL l + sizeK ks)
def sizeL : List V → Nat
  | [] => 0
  | v :: l => v.size + sizeL l
def sizeK : List (ByteArray × V) → Nat
  | [] => 0
  | (_, v) :: l => v.size + sizeK l
end
theorem sizeK_eq (ks : List (ByteArray × V)) : sizeK ks = sizeL (ks.map (·.2)) := by
  induction ks with
  | nil => rfl
  | cons k ks ih => obtain ⟨s, v⟩ := k; simp only [sizeK, List.map_cons, sizeL, ih]
theorem V.size_eq (v : V) : v.size = 1 + (sizeL v.list + sizeL (v.keys.map (·.2))) := by
  obtain ⟨k, f, n, s, l, ks⟩ := v
  simp only [V.size, V.list, V.keys, sizeK_eq]
theorem V.size_pos (v : V) : 0 < v.size := by rw [V.size_eq]; omega
theorem size_inside (v : V) : sizeL v.inside < v.size := by
  rw [V.size_eq]
  unfold V.inside
  split
  · omega
  split
  · omega
  · simp only [sizeL]; omega
theorem size_mem {v : V} {l : List V} (h : v ∈ l) : v.size ≤ sizeL l := by
  induction l with
  | nil => cases h
  | cons a l ih =>
    simp only [sizeL]
    rcases List.mem_cons.1 h with rfl | h
    · omega
    · have := ih h; omega
theorem length_le_size (l : List V) : l.length ≤ sizeL l := by
  induction l with
  | nil => exact Nat.zero_le _
  | cons a l ih => have := a.size_pos; simp only [sizeL, List.length_cons]; omega

/-! ### how deep -/
mutual
def V.depth : V → Nat
  | .mk k _ _ _ l ks => if k = 4 then depthL l + 1 else if k = 5 then depthK ks + 1 else 0
def depthL : List V → Nat
  | [] => 0
  | v :: l => max v.depth (depthL l)
def depthK : List (ByteArray × V) → Nat
  | [] => 0
  | (_, v) :: l => max v.depth (depthK l)
end
theorem depthK_eq (ks : List (ByteArray × V)) : depthK ks = depthL (ks.map (·.2)) := by
  induction ks with
  | nil => rfl
  | cons k ks ih => obtain ⟨s, v⟩ := k; simp only [depthK, List.map_cons, depthL, ih]
theorem V.depth_holds {v : V} (h : v.holds = true) : v.depth = depthL v.inside + 1 := by
  obtain ⟨k, f, n, s, l, ks⟩ := v
  have h' : k = 4 ∨ k = 5 := of_decide_eq_true h
  rcases h' with rfl | rfl
  · simp [V.depth, V.inside, V.kind, V.list]
  · simp [V.depth, V.inside, V.kind, V.keys, depthK_eq]
theorem V.depth_not {v : V} (h : v.holds = false) : v.depth = 0 := by
  obtain ⟨k, f, n, s, l, ks⟩ := v
  have h' : ¬ (k = 4 ∨ k = 5) := of_decide_eq_false h
  simp only [V.depth]
  rw [if_neg (by omega), if_neg (by omega)]
theorem inside_not {v : V} (h : v.holds = false) : v.inside = [] := by
  simp only [V.holds, decide_eq_false_iff_not] at h
  unfold V.inside
  rw [if_neg (by omega), if_neg (by omega)]
theorem depthL_lt (l : List V) (n : Nat) : n < depthL l ↔ ∃ v ∈ l, n < v.depth := by
  induction l with
  | nil => simp [depthL]
  | cons a l ih =>
    simp only [depthL, List.mem_cons, exists_eq_or_imp]
    rw [← ih]; omega
theorem depthL_append (l m : List V) : depthL (l ++ m) = max (depthL l) (depthL m) := by
  induction l with
  | nil => simp [depthL]
  | cons a l ih => simp only [List.cons_append, depthL, ih]; omega
theorem depth_le (n : Nat) : ∀ v : V, v.size ≤ n → v.depth ≤ v.size := by
  induction n with
  | zero => intro v hv; have := v.size_pos; omega
  | succ n ih =>
    intro v hv
    cases h : v.holds with
    | false => rw [v.depth_not h]; omega
    | true =>
      rw [v.depth_holds h]
      have hs := size_inside v
      rcases Nat.eq_zero_or_pos (depthL v.inside) with h0 | h0
      · have := v.size_pos; omega
      · obtain ⟨x, hx, hd⟩ := (depthL_lt v.inside (depthL v.inside - 1)).1 (by omega)
        have h1 := size_mem hx
        have := ih x (by omega)
        omega
theorem V.depth_size (v : V) : v.depth ≤ v.size := depth_le v.size v (Nat.le_refl _)

/-! What is left to look at: values that hold others, and their levels. -/
def bnd : List (V × Nat) → Nat
  | [] => 0
  | (v, n) :: l => max (n - 1 + v.depth) (bnd l)
theorem bnd_append (l m : List (V × Nat)) : bnd (l ++ m) = max (bnd l) (bnd m) := by
  induction l with
  | nil => simp [bnd]
  | cons a l ih => obtain ⟨v, n⟩ := a; simp only [List.cons_append, bnd, ih]; omega
theorem bnd_mem {l : List (V × Nat)} {v : V} {n : Nat} (h : (v, n) ∈ l) : n - 1 + v.depth ≤ bnd l := by
  induction l with
  | nil => cases h
  | cons a l ih =>
    obtain ⟨x, k⟩ := a
    simp only [bnd]
    rcases List.mem_cons.1 h with h | h
    · cases h; omega
    · have := ih h; omega
def pushed (l : List V) (n : Nat) : List (V × Nat) := (l.filter V.holds).map fun v => (v, n)
theorem pushed_cons (v : V) (l : List V) (n : Nat) : pushed (v :: l) n = (if v.holds = true then [(v, n)] else []) ++ pushed l n := by
  unfold pushed
  cases h : v.holds <;> simp [h]
theorem pushed_snoc (l : List V) (v : V) (n : Nat) : pushed (l ++ [v]) n = pushed l n ++ (if v.holds = true then [(v, n)] else []) := by
  unfold pushed
  rw [List.filter_append, List.map_append]
  cases h : v.holds <;> simp [h]
theorem bnd_pushed (l : List V) (n : Nat) : max n (bnd (pushed l (n + 1))) = n + depthL l := by
  induction l with
  | nil => simp [pushed, bnd, depthL]
  | cons v l ih =>
    rw [pushed_cons, bnd_append]
    simp only [depthL]
    cases h : v.holds with
    | false => rw [v.depth_not h]; simp [bnd]; omega
    | true => simp only [if_true, bnd]; omega
theorem bnd_step (l : List (V × Nat)) (v : V) (n d : Nat) (h : v.holds = true) (hn : 1 ≤ n) : max d (bnd (l ++ [(v, n)])) = max (max d n) (bnd (l ++ pushed v.inside (n + 1))) := by
  have := bnd_pushed v.inside n
  rw [bnd_append, bnd_append]
  simp only [bnd]
  rw [v.depth_holds h]
  omega
def szs : List (V × Nat) → Nat
  | [] => 0
  | (v, _) :: l => v.size + szs l
theorem szs_append (l m : List (V × Nat)) : szs (l ++ m) = szs l + szs m := by
  induction l with
  | nil => simp [szs]
  | cons a l ih => obtain ⟨v, n⟩ := a; simp only [List.cons_append, szs, ih]; omega
theorem szs_pushed (l : List V) (n : Nat) : szs (pushed l n) ≤ sizeL l := by
  induction l with
  | nil => exact Nat.le_refl _
  | cons v l ih =>
    rw [pushed_cons, szs_append]
    simp only [sizeL]
    cases h : v.holds with
    | false => simp [szs]; omega
    | true => simp only [if_true, szs]; omega
theorem szs_length (l : List (V × Nat)) : l.length ≤ szs l := by
  induction l with
  | nil => exact Nat.le_refl _
  | cons a l ih => obtain ⟨v, n⟩ := a; have := v.size_pos; simp only [szs, List.length_cons]; omega
theorem szs_step (l : List (V × Nat)) (v : V) (n k : Nat) : szs (l ++ pushed v.inside k) < szs (l ++ [(v, n)]) := by
  rw [szs_append, szs_append]
  have := szs_pushed v.inside k
  have := size_inside v
  simp only [szs]; omega

/-! ### alike -/
mutual
def V.same : V → V → Bool
  | .mk k f n s l ks, .mk k' f' n' s' l' ks' => decide (k = k') && (decide (k ≠ 1 ∨ f = f') && (decide (k ≠ 2 ∨ n = n') && (decide (k ≠ 3 ∨ s = s') && ((decide (k ≠ 4) || sameL l l') && (decide (k ≠ 5) || sameK ks ks')))))
def sameL : List V → List V → Bool
  | [], [] => true
  | v :: l, w :: m => v.same w && sameL l m
  | [], _ :: _ => false
  | _ :: _, [] => false
def sameK : List (ByteArray × V) → List (ByteArray × V) → Bool
  | [], [] => true
  | (s, v) :: l, (t, w) :: m => decide (s = t) && (v.same w && sameK l m)
  | [], _ :: _ => false
  | _ :: _, [] => false
end
/-- Alike but for the values inside. -/
def V.alike (v w : V) : Bool := decide (v.kind = w.kind ∧ (v.kind ≠ 1 ∨ v.flag = w.flag) ∧ (v.kind ≠ 2 ∨ v.num = w.num) ∧ (v.kind ≠ 3 ∨ v.text = w.text) ∧ (v.kind ≠ 5 ∨ v.keys.map (·.1) = w.keys.map (·.1)))
theorem sameK_eq : ∀ (l m : List (ByteArray × V)), sameK l m = (decide (l.map (·.1) = m.map (·.1)) && sameL (l.map (·.2)) (m.map (·.2)))
  | [], [] => by simp [sameK, sameL]
  | (s, v) :: l, (t, w) :: m => by
    simp only [sameK, List.map_cons, sameL, sameK_eq l m, List.cons.injEq]
    by_cases h : s = t <;> by_cases h2 : l.map (·.1) = m.map (·.1) <;> simp [h, h2]
  | [], _ :: _ => by simp [sameK]
  | _ :: _, [] => by simp [sameK]
def sin (v w : V) : Bool := sameL v.inside w.inside
theorem same_eq (v w : V) : v.same w = (v.alike w && sin v w) := by
  obtain ⟨k, f, n, s, l, ks⟩ := v
  obtain ⟨k', f', n', s', l', ks'⟩ := w
  simp only [V.same, V.alike, sin, V.inside, V.kind, V.flag, V.num, V.text, V.list, V.keys, sameK_eq]
  by_cases hk : k = k'
  · subst hk
    by_cases h4 : k = 4
    · subst h4; simp
    · by_cases h5 : k = 5
      · subst h5; simp
      · simp [h4, h5, sameL]
  · simp [hk]
theorem sin_not {v w : V} (hv : v.holds = false) (hw : w.kind = v.kind) : sin v w = true := by
  unfold sin
  rw [inside_not hv, inside_not (by unfold V.holds at hv ⊢; rw [hw]; exact hv)]
  rfl
theorem alike_kind {v w : V} (h : v.alike w = true) : w.kind = v.kind := by
  unfold V.alike at h
  exact (of_decide_eq_true h).1.symm
def alikeL : List V → List V → Bool
  | [], [] => true
  | v :: l, w :: m => v.alike w && alikeL l m
  | [], _ :: _ => false
  | _ :: _, [] => false
theorem alikeL_length : ∀ {l m : List V}, alikeL l m = true → l.length = m.length
  | [], [], _ => rfl
  | v :: l, w :: m, h => by
    simp only [alikeL, Bool.and_eq_true] at h
    simp [alikeL_length h.2]
  | [], _ :: _, h => by cases h
  | _ :: _, [], h => by cases h
theorem alikeL_parted {l m : List V} (h : l.length ≠ m.length) : alikeL l m = false := by
  cases e : alikeL l m with
  | false => rfl
  | true => exact absurd (alikeL_length e) h
theorem alikeL_drop (l m : List V) (k : Nat) (hl : k < l.length) (hm : k < m.length) : alikeL (l.drop k) (m.drop k) = (l[k].alike m[k] && alikeL (l.drop (k + 1)) (m.drop (k + 1))) := by
  rw [List.drop_eq_getElem_cons hl, List.drop_eq_getElem_cons hm, alikeL]
def allS (l : List (V × V)) : Bool := l.all fun p => sin p.1 p.2
theorem allS_append (l m : List (V × V)) : allS (l ++ m) = (allS l && allS m) := by simp [allS]
def pushed2 (l m : List V) : List (V × V) := (l.zip m).filter fun p => p.1.holds
theorem sameL_alike : ∀ (l m : List V), sameL l m = (alikeL l m && allS (pushed2 l m))
  | [], [] => rfl
  | v :: l, w :: m => by
    simp only [sameL, alikeL, same_eq, sameL_alike l m, pushed2, List.zip_cons_cons]
    cases ha : v.alike w with
    | false => simp
    | true =>
      cases hv : v.holds with
      | false => rw [sin_not hv (alike_kind ha)]; simp [hv]
      | true =>
        simp only [List.filter_cons, hv, if_true, allS, List.all_cons, Bool.true_and]
        cases sin v w <;> cases alikeL l m <;> rfl
  | [], _ :: _ => rfl
  | _ :: _, [] => rfl
theorem pushed2_take (l m : List V) (k : Nat) (hl : k < l.length) (hm : k < m.length) : pushed2 (l.take (k + 1)) (m.take (k + 1)) = pushed2 (l.take k) (m.take k) ++ if l[k].holds = true then [(l[k], m[k])] else [] := by
  unfold pushed2
  rw [List.take_succ_eq_append_getElem hl, List.take_succ_eq_append_getElem hm, List.zip_append (by simp; omega), List.filter_append]
  cases h : l[k].holds <;> simp [h]
def szs2 : List (V × V) → Nat
  | [] => 0
  | (v, _) :: l => v.size + szs2 l
theorem szs2_append (l m : List (V × V)) : szs2 (l ++ m) = szs2 l + szs2 m := by
  induction l with
  | nil => simp [szs2]
  | cons a l ih => obtain ⟨v, n⟩ := a; simp only [List.cons_append, szs2, ih]; omega
theorem szs2_pushed : ∀ (l m : List V), szs2 (pushed2 l m) ≤ sizeL l
  | [], _ => by simp [pushed2, szs2]
  | v :: l, [] => by simp [pushed2, szs2]
  | v :: l, w :: m => by
    have ih := szs2_pushed l m
    unfold pushed2 at ih ⊢
    simp only [List.zip_cons_cons, List.filter_cons, sizeL]
    cases h : v.holds with
    | false => simp; omega
    | true => simp only [if_true, szs2]; omega
theorem szs2_length (l : List (V × V)) : l.length ≤ szs2 l := by
  induction l with
  | nil => exact Nat.le_refl _
  | cons a l ih => obtain ⟨v, n⟩ := a; have := v.size_pos; simp only [szs2, List.length_cons]; omega
theorem szs2_step (l : List (V × V)) (v w : V) (m : List V) : szs2 (l ++ pushed2 v.inside m) < szs2 (l ++ [(v, w)]) := by
  rw [szs2_append, szs2_append]
  have := szs2_pushed v.inside m
  have := size_inside v
  simp only [szs2]; omega
theorem allS_step {l : List (V × V)} {v w : V} (h : alikeL v.inside w.inside = true) : allS (l ++ [(v, w)]) = allS (l ++ pushed2 v.inside w.inside) := by
  rw [allS_append, allS_append]
  congr 1
  show (sin v w && true) = _
  rw [Bool.and_true]
  unfold sin
  rw [sameL_alike, h, Bool.true_and]
theorem allS_parted {l : List (V × V)} {v w : V} (h : alikeL v.inside w.inside = false) : allS (l ++ [(v, w)]) = false := by
  rw [allS_append]
  show (allS l && (sin v w && true)) = _
  unfold sin
  rw [sameL_alike, h]
  simp
mutual
theorem V.same_refl : ∀ v : V, v.same v = true
  | .mk k f n s l ks => by simp [V.same, sameL_refl l, sameK_refl ks]
theorem sameL_refl : ∀ l : List V, sameL l l = true
  | [] => rfl
  | v :: l => by simp [sameL, V.same_refl v, sameL_refl l]
theorem sameK_refl : ∀ l : List (ByteArray × V), sameK l l = true
  | [] => rfl
  | (s, v) :: l => by simp [sameK, V.same_refl v, sameK_refl l]
end

/-! ### what is wrong -/
def textW (s : ByteArray) : Int := if Lib.validD s.data.toList = true then (if 4096 < s.size then 2 else 0) else 10
def textsW : List ByteArray → Int
  | [] => 0
  | s :: l => if textW s ≠ 0 then textW s else textsW l
def keysW (l : List ByteArray) : Int := if textsW l ≠ 0 then textsW l else if l.Nodup then 0 else 8
def V.own (v : V) : Int := if v.kind < 0 ∨ 5 < v.kind then 15 else if v.kind = 3 then textW v.text else if v.kind = 5 then keysW (v.keys.map (·.1)) else 0
mutual
def V.wrong : V → Int
  | .mk k f n s l ks => if (V.mk k f n s l ks).own ≠ 0 then (V.mk k f n s l ks).own else if k = 4 then wrongL l else if k = 5 then wrongK ks else 0
def wrongL : List V → Int
  | [] => 0
  | v :: l => if v.wrong ≠ 0 then v.wrong else wrongL l
def wrongK : List (ByteArray × V) → Int
  | [] => 0
  | (_, v) :: l => if v.wrong ≠ 0 then v.wrong else wrongK l
end
theorem wrongK_eq (ks : List (ByteArray × V)) : wrongK ks = wrongL (ks.map (·.2)) := by
  induction ks with
  | nil => rfl
  | cons k ks ih => obtain ⟨s, v⟩ := k; simp only [wrongK, List.map_cons, wrongL, ih]
theorem wrong_eq (v : V) : v.wrong = if v.own ≠ 0 then v.own else wrongL v.inside := by
  obtain ⟨k, f, n, s, l, ks⟩ := v
  simp only [V.wrong, V.inside, V.kind, V.list, V.keys, wrongK_eq]
  split
  · rfl
  by_cases h4 : k = 4
  · subst h4; simp
  by_cases h5 : k = 5
  · subst h5; simp
  · simp [h4, h5, wrongL]
theorem wrongL_drop (l : List V) (k : Nat) (h : k < l.length) : wrongL (l.drop k) = if l[k].wrong ≠ 0 then l[k].wrong else wrongL (l.drop (k + 1)) := by
  rw [List.drop_eq_getElem_cons h, wrongL]
theorem textsW_drop (l : List ByteArray) (k : Nat) (h : k < l.length) : textsW (l.drop k) = if textW l[k] ≠ 0 then textW l[k] else textsW (l.drop (k + 1)) := by
  rw [List.drop_eq_getElem_cons h, textsW]
def V.check (v : V) : Int := if 32 < v.depth then 9 else v.wrong
theorem textW_bd (s : ByteArray) : 0 ≤ textW s ∧ textW s ≤ 100 := by unfold textW; repeat' split <;> omega
theorem textsW_bd : ∀ l : List ByteArray, 0 ≤ textsW l ∧ textsW l ≤ 100
  | [] => by simp [textsW]
  | s :: l => by
    have := textW_bd s
    have := textsW_bd l
    simp only [textsW]; split <;> omega
theorem own_bd (v : V) : 0 ≤ v.own ∧ v.own ≤ 100 := by
  have := textW_bd v.text
  have := textsW_bd (v.keys.map (·.1))
  unfold V.own keysW
  repeat' split
  all_goals omega

/-! ### a key's value -/
def V.get (v : V) (name : ByteArray) : Option V := if v.kind = 5 then (v.keys.find? fun p => decide (p.1 = name)).map (·.2) else none
end Go.Proofs.YthhdadfnkdjmkaaGreatDoor.v
namespace Go.Proofs.YthhdadfnkdjmkaaGreatDoor.v
open Go.ChangeShapes Go.WideShapes Go.ChangeAt Go.RowKit

/-- Of what was there nothing has turned; there may be new blocks. -/
def Fresh (w w' : World) : Prop := Below w.heap.size w w'
theorem Fresh.refl (w : World) : Fresh w w := Below.refl _ _
theorem Fresh.trans {a b c : World} (h : Fresh a b) (k : Fresh b c) : Fresh a c := Below.trans h (Below.mono k h.size)
theorem Fresh.alloc {a b : World} (h : Fresh a b) (o : Obj) : Fresh a (b.alloc o) := Below.alloc h h.size o
theorem Fresh.setCell {a b : World} (h : Fresh a b) {p : Addr} (hp : a.heap.size ≤ p.block) (u : Value) : Fresh a (b.setCell p u) := Below.setCell h hp u
theorem Fresh.drew {a b : World} (h : Fresh a b) : Fresh a b.drew := Below.drew h
theorem Fresh.drewN {a b : World} (h : Fresh a b) (n : Nat) : Fresh a (b.drewN n) := ⟨h.os, h.tape, h.output, h.size, h.block⟩
theorem Fresh.at {a b : World} (h : Fresh a b) {k : Nat} {o : Obj} (hk : a.heap[k]? = some o) : b.heap[k]? = some o := by
  rw [h.block k (Array.getElem?_eq_some_iff.1 hk).1]; exact hk
theorem Fresh.cell {a b : World} (h : Fresh a b) {p : Addr} {v : Value} (hc : a.cell? p = some v) : b.cell? p = some v :=
  (Below.cell h (World.block_lt_of_cell? a p hc)).trans hc
theorem lt_of_at {w : World} {k : Nat} {o : Obj} (hk : w.heap[k]? = some o) : k < w.heap.size := (Array.getElem?_eq_some_iff.1 hk).1
theorem at_alloc {w : World} {k : Nat} {o p : Obj} (hk : w.heap[k]? = some o) : (w.alloc p).heap[k]? = some o := by
  rw [Below.heap_alloc _ _ _ (lt_of_at hk)]; exact hk
theorem at_new (w : World) (o : Obj) : (w.alloc o).heap[w.heap.size]? = some o := by
  show (w.heap.push o)[w.heap.size]? = _
  simp
theorem cell_of_at {w : World} {b : Nat} {cs : Array Value} {t : TypeId} {z : Nat × Nat} (h : w.heap[b]? = some (.cells cs t z)) {i : Nat} {v : Value} (hi : cs[i]? = some v) : w.cell? ⟨b, i, none⟩ = some v := by
  simp [World.cell?, h, hi]
theorem addr_add (b off n : Nat) : (⟨b, off, none⟩ : Addr).add n = ⟨b, off + n, none⟩ := by
  unfold Addr.add
  split <;> simp_all
theorem addr_add0 (b n : Nat) : (⟨b, 0, none⟩ : Addr).add n = ⟨b, n, none⟩ := by rw [addr_add, Nat.zero_add]
theorem grown_set (w : World) (g o : Nat) (u : Value) : w.grownBy (w.setCell ⟨g, o, none⟩ u) (some g) :=
  ⟨rfl, rfl, rfl, by simp [World.setCell], fun k _ hk => Below.heap_setCell _ _ _ _ (fun e => hk (by rw [e]))⟩
theorem Fresh.grown {a b c : World} {r : Option Nat} (h : Fresh a b) (k : b.grownBy c r) (hr : ∀ g, r = some g → a.heap.size ≤ g) : Fresh a c :=
  Below.grown h k h.size hr

/-! ### values in memory -/
inductive M where
  | mk (kind : Int) (flag : Bool) (num : Int) (text : ByteArray) (la : Option Addr) (lc : Nat) (list : List M) (ka : Option Addr) (kc : Nat) (keys : List (ByteArray × M))
def M.kind : M → Int | .mk k _ _ _ _ _ _ _ _ _ => k
def M.list : M → List M | .mk _ _ _ _ _ _ l _ _ _ => l
def M.keys : M → List (ByteArray × M) | .mk _ _ _ _ _ _ _ _ _ ks => ks
def M.cells : M → List Value | .mk k f n s la lc l ka kc ks => [.int .i64 k, .bool f, .int .i64 n, .string s, .slice la l.length lc, .slice ka ks.length kc]
abbrev mval (k : Int) (f : Bool) (n : Int) (s : ByteArray) (la : Option Addr) (ln lc : Nat) (ka : Option Addr) (kn kc : Nat) : Value := .agg #[.int .i64 k, .bool f, .int .i64 n, .string s, .slice la ln lc, .slice ka kn kc]
def M.val : M → Value | .mk k f n s la lc l ka kc ks => mval k f n s la l.length lc ka ks.length kc
mutual
def M.plain : M → V | .mk k f n s _ _ l _ _ ks => .mk k f n s (plainL l) (plainK ks)
def plainL : List M → List V
  | [] => []
  | m :: l => m.plain :: plainL l
def plainK : List (ByteArray × M) → List (ByteArray × V)
  | [] => []
  | (s, m) :: l => (s, m.plain) :: plainK l
end
theorem plainL_eq (l : List M) : plainL l = l.map M.plain := by
  induction l with
  | nil => rfl
  | cons m l ih => simp only [plainL, List.map_cons, ih]
theorem plainK_eq (l : List (ByteArray × M)) : plainK l = l.map fun p => (p.1, p.2.plain) := by
  induction l with
  | nil => rfl
  | cons m l ih => obtain ⟨s, m⟩ := m; simp only [plainK, List.map_cons, ih]
def M.inside (m : M) : List M := if m.kind = 4 then m.list else if m.kind = 5 then m.keys.map (·.2) else []
theorem plain_kind (m : M) : m.plain.kind = m.kind := by obtain ⟨k, f, n, s, la, lc, l, ka, kc, ks⟩ := m; rfl
theorem plain_list (m : M) : m.plain.list = m.list.map M.plain := by obtain ⟨k, f, n, s, la, lc, l, ka, kc, ks⟩ := m; simp [M.plain, V.list, M.list, plainL_eq]
theorem plain_keys (m : M) : m.plain.keys = m.keys.map fun p => (p.1, p.2.plain) := by obtain ⟨k, f, n, s, la, lc, l, ka, kc, ks⟩ := m; simp [M.plain, V.keys, M.keys, plainK_eq]
theorem plain_inside (m : M) : m.plain.inside = m.inside.map M.plain := by
  unfold V.inside M.inside
  rw [plain_kind, plain_list, plain_keys]
  split
  · rfl
  split
  · simp
  · rfl
theorem plain_names (m : M) : m.plain.keys.map (·.1) = m.keys.map (·.1) := by rw [plain_keys]; simp

/-- A slice at a reads as these cells. -/
def RowAt (w : World) (a : Option Addr) (cs : List Value) : Prop :=
  (a = none ∧ cs = []) ∨ ∃ g, a = some ⟨g, 0, none⟩ ∧ ∀ j x, cs[j]? = some x → w.cell? ⟨g, j, none⟩ = some x
theorem RowAt.move {w w' : World} {a : Option Addr} {cs : List Value} (h : RowAt w a cs) (f : Fresh w w') : RowAt w' a cs := by
  rcases h with h | ⟨g, e, h⟩
  · exact .inl h
  · exact .inr ⟨g, e, fun j x hj => f.cell (h j x hj)⟩
theorem RowAt.nil (w : World) : RowAt w none [] := .inl ⟨rfl, rfl⟩
theorem RowAt.none {w : World} {cs : List Value} (h : RowAt w none cs) : cs = [] := by
  rcases h with ⟨_, h⟩ | ⟨g, e, _⟩
  · exact h
  · cases e
theorem RowAt.owns {w : World} {B : Nat} {t : TypeId} {k n m c : Nat} {a : Option Addr} {xs : List Value} (h : w.ownsRow B t k (.slice a m c) n xs) : RowAt w a xs := by
  rcases h.2 with ⟨e, hn⟩ | ⟨g, cap, cur, e, _⟩
  · cases e
    have := h.1
    rw [hn] at this
    exact .inl ⟨rfl, List.eq_nil_of_length_eq_zero (by simpa using this)⟩
  · cases e
    exact .inr ⟨g, rfl, fun j x hj => by rw [← addr_add0]; exact h.cells (g := g) rfl j x hj⟩
def mcells (l : List M) : List Value := l.flatMap M.cells
def pcellsOf (p : ByteArray × M) : List Value := .string p.1 :: p.2.cells
def pcells (l : List (ByteArray × M)) : List Value := l.flatMap pcellsOf
theorem cells_length (m : M) : m.cells.length = 6 := by obtain ⟨k, f, n, s, la, lc, l, ka, kc, ks⟩ := m; rfl
theorem flat_length {α : Type} (f : α → List Value) (k : Nat) (h : ∀ x, (f x).length = k) (l : List α) : (l.flatMap f).length = l.length * k := by
  induction l with
  | nil => simp
  | cons a l ih => simp only [List.flatMap_cons, List.length_append, ih, h, List.length_cons, Nat.succ_mul]; omega
theorem flat_get {α : Type} (f : α → List Value) (k : Nat) (h : ∀ x, (f x).length = k) (l : List α) : ∀ (i : Nat) (hi : i < l.length) (j : Nat), j < k → (l.flatMap f)[i * k + j]? = (f l[i])[j]? := by
  induction l with
  | nil => intro i hi; simp at hi
  | cons a l ih =>
    intro i hi j hj
    rw [List.flatMap_cons]
    cases i with
    | zero => rw [List.getElem?_append_left (by rw [h]; omega)]; simp
    | succ i =>
      have e : (i + 1) * k + j = k + (i * k + j) := by rw [Nat.succ_mul]; omega
      rw [List.getElem?_append_right (by rw [h]; omega), h, e, Nat.add_sub_cancel_left]
      exact ih i (by simpa using hi) j hj
theorem flat_snoc {α : Type} (f : α → List Value) (l : List α) (x : α) : (l ++ [x]).flatMap f = l.flatMap f ++ f x := by simp
theorem mcells_length (l : List M) : (mcells l).length = l.length * 6 := flat_length _ _ cells_length l
theorem pcells_length (l : List (ByteArray × M)) : (pcells l).length = l.length * 7 := flat_length _ _ (fun p => by simp [pcellsOf, cells_length]) l
theorem mcells_snoc (l : List M) (m : M) : mcells (l ++ [m]) = mcells l ++ m.cells := flat_snoc _ _ _
theorem pcells_snoc (l : List (ByteArray × M)) (p : ByteArray × M) : pcells (l ++ [p]) = pcells l ++ pcellsOf p := flat_snoc _ _ _
/-- The six cells of a value lie at a place. -/
def M.lies (w : World) (g o : Nat) : M → Prop
  | .mk k f n s la lc l ka kc ks => w.cell? ⟨g, o, none⟩ = some (.int .i64 k) ∧ w.cell? ⟨g, o + 1, none⟩ = some (.bool f) ∧ w.cell? ⟨g, o + 2, none⟩ = some (.int .i64 n) ∧ w.cell? ⟨g, o + 3, none⟩ = some (.string s) ∧ w.cell? ⟨g, o + 4, none⟩ = some (.slice la l.length lc) ∧ w.cell? ⟨g, o + 5, none⟩ = some (.slice ka ks.length kc)
theorem M.lies.of {w : World} {g o : Nat} (m : M) (h : ∀ j x, m.cells[j]? = some x → w.cell? ⟨g, o + j, none⟩ = some x) : m.lies w g o := by
  obtain ⟨k, f, n, s, la, lc, l, ka, kc, ks⟩ := m
  exact ⟨h 0 _ rfl, h 1 _ rfl, h 2 _ rfl, h 3 _ rfl, h 4 _ rfl, h 5 _ rfl⟩
theorem M.lies.move {w w' : World} {g o : Nat} {m : M} (h : m.lies w g o) (f : Fresh w w') : m.lies w' g o := by
  obtain ⟨k, fl, n, s, la, lc, l, ka, kc, ks⟩ := m
  obtain ⟨h0, h1, h2, h3, h4, h5⟩ := h
  exact ⟨f.cell h0, f.cell h1, f.cell h2, f.cell h3, f.cell h4, f.cell h5⟩
theorem mrow_get {w : World} {g : Nat} {l : List M} (h : RowAt w (some ⟨g, 0, none⟩) (mcells l)) (i : Nat) (hi : i < l.length) : l[i].lies w g (i * 6) := by
  rcases h with ⟨e, _⟩ | ⟨g', e, h⟩
  · cases e
  · cases e
    refine M.lies.of _ fun j x hj => h _ _ ?_
    have hj6 : j < 6 := by rw [← cells_length l[i]]; exact (List.getElem?_eq_some_iff.1 hj).1
    unfold mcells
    rw [flat_get M.cells 6 cells_length l i hi j hj6]; exact hj
theorem prow_get {w : World} {g : Nat} {l : List (ByteArray × M)} (h : RowAt w (some ⟨g, 0, none⟩) (pcells l)) (i : Nat) (hi : i < l.length) : w.cell? ⟨g, i * 7, none⟩ = some (.string l[i].1) ∧ l[i].2.lies w g (i * 7 + 1) := by
  have hp : ∀ p : ByteArray × M, (pcellsOf p).length = 7 := fun p => by simp [pcellsOf, cells_length]
  rcases h with ⟨e, _⟩ | ⟨g', e, h⟩
  · cases e
  · cases e
    have hg : ∀ j x, (pcellsOf l[i])[j]? = some x → w.cell? ⟨g, i * 7 + j, none⟩ = some x := fun j x hj => h _ _ (by
      have hj7 : j < 7 := by rw [← hp l[i]]; exact (List.getElem?_eq_some_iff.1 hj).1
      unfold pcells
      rw [flat_get pcellsOf 7 hp l i hi j hj7]; exact hj)
    refine ⟨hg 0 _ rfl, M.lies.of _ fun j x hj => ?_⟩
    have := hg (j + 1) x (by simpa [pcellsOf] using hj)
    rw [Nat.add_right_comm, Nat.add_assoc]; exact this

/-- A value's own rows lie in memory, and those of all values in it. -/
inductive M.At (w : World) : M → Prop
  | mk {k : Int} {f : Bool} {n : Int} {s : ByteArray} {la : Option Addr} {lc : Nat} {l : List M} {ka : Option Addr} {kc : Nat} {ks : List (ByteArray × M)}
    (hs : s.size ≤ 1000000) (hl : RowAt w la (mcells l)) (hk : RowAt w ka (pcells ks)) (ll : l.length ≤ 1000000) (lk : ks.length ≤ 1000000) (hn : ∀ p ∈ ks, p.1.size ≤ 1000000)
    (ml : ∀ m ∈ l, M.At w m) (mk : ∀ p ∈ ks, M.At w p.2) : M.At w (.mk k f n s la lc l ka kc ks)
theorem M.At.move {w w' : World} {m : M} (h : m.At w) (f : Fresh w w') : m.At w' := by
  induction h with
  | mk hs hl hk ll lk hn ml mk ihl ihk => exact .mk hs (hl.move f) (hk.move f) ll lk hn ihl ihk
theorem M.At.parts {w : World} {k : Int} {f : Bool} {n : Int} {s : ByteArray} {la : Option Addr} {lc : Nat} {l : List M} {ka : Option Addr} {kc : Nat} {ks : List (ByteArray × M)} (h : (M.mk k f n s la lc l ka kc ks).At w) :
    s.size ≤ 1000000 ∧ RowAt w la (mcells l) ∧ RowAt w ka (pcells ks) ∧ l.length ≤ 1000000 ∧ ks.length ≤ 1000000 ∧ (∀ p ∈ ks, p.1.size ≤ 1000000) ∧ (∀ m ∈ l, M.At w m) ∧ (∀ p ∈ ks, M.At w p.2) := by
  cases h with
  | mk hs hl hk ll lk hn ml mk => exact ⟨hs, hl, hk, ll, lk, hn, ml, mk⟩
theorem M.At.inside {w : World} {m : M} (h : m.At w) : ∀ x ∈ m.inside, x.At w := by
  obtain ⟨k, f, n, s, la, lc, l, ka, kc, ks⟩ := m
  obtain ⟨_, _, _, _, _, _, ml, mk⟩ := h.parts
  intro x hx
  unfold M.inside at hx
  split at hx
  · exact ml x hx
  split at hx
  · obtain ⟨p, hp, rfl⟩ := List.mem_map.1 hx
    exact mk p hp
  · cases hx
theorem M.At.len {w : World} {m : M} (h : m.At w) : m.inside.length ≤ 1000000 := by
  obtain ⟨k, f, n, s, la, lc, l, ka, kc, ks⟩ := m
  obtain ⟨_, _, _, ll, lk, _⟩ := h.parts
  unfold M.inside
  split
  · exact ll
  split
  · rw [List.length_map]; exact lk
  · simp
/-- The zero value. -/
def M.zero : M := .mk 0 false 0 ⟨#[]⟩ none 0 [] none 0 []
theorem zero_at (w : World) : M.zero.At w := .mk (by decide) (.nil w) (.nil w) (by simp) (by simp) (fun _ h => by cases h) (fun _ h => by cases h) (fun _ h => by cases h)

/-! ### rows of the call's own -/
theorem owns_move {B : Nat} {t : TypeId} {n k : Nat} {w w' : World} {v : Value} {xs : List Value} (h : w.ownsRow B t k v n xs) (f : Fresh w w') : w'.ownsRow B t k v n xs :=
  h.kept (row := none) ⟨f.os, f.tape, f.output, f.size, fun i hi _ => f.block i hi⟩ (by cases hv : v.ownBlock <;> simp)
theorem owns_slice {B : Nat} {t : TypeId} {n k : Nat} {w : World} {v : Value} {xs : List Value} (h : w.ownsRow B t k v n xs) : ∃ a c, v = .slice a n c := by
  rcases h.2 with ⟨e1, e2⟩ | ⟨g, cap, cur, e1, _⟩
  · exact ⟨none, 0, by rw [e1, e2]⟩
  · exact ⟨_, _, e1⟩
theorem owns_mono {B B' : Nat} {t : TypeId} {n k : Nat} {w : World} {v : Value} {xs : List Value} (h : w.ownsRow B t k v n xs) (hB : B' ≤ B) : w.ownsRow B' t k v n xs := by
  obtain ⟨h1, h2⟩ := h
  refine ⟨h1, h2.imp_right ?_⟩
  rintro ⟨g, cap, cur, e, hb, r⟩
  exact ⟨g, cap, cur, e, Nat.le_trans hB hb, r⟩
/-- A row that was built: whole, with no room. -/
theorem owns_built {B : Nat} {t : TypeId} {k n : Nat} {w : World} {g : Nat} {cs : Array Value} (h : w.heap[g]? = some (.cells cs t (0, 0))) (hB : B ≤ g) (hk : cs.size = n * k) (hn : n ≤ maxLen) : w.ownsRow B t k (.slice (some ⟨g, 0, none⟩) n n) n cs.toList :=
  ⟨by simpa using hk, .inr ⟨g, n, cs, rfl, hB, h, Nat.le_refl _, hn, hk, by rw [List.take_of_length_le (by simp [hk])]⟩⟩
/-- All but the last of a row. -/
theorem owns_pop {B : Nat} {t : TypeId} {k n m c : Nat} {w : World} {a : Option Addr} {xs ys : List Value} (h : w.ownsRow B t k (.slice a m c) (n + 1) (xs ++ ys)) (hy : ys.length = k) : w.ownsRow B t k (.slice a n c) n xs := by
  obtain ⟨h1, h2⟩ := h
  have hx : xs.length = n * k := by simp [hy, Nat.succ_mul] at h1; omega
  refine ⟨hx, .inr ?_⟩
  rcases h2 with ⟨_, e⟩ | ⟨g, cap, cur, e, hb, hh, hn, hc, hs, ht⟩
  · omega
  · cases e
    refine ⟨g, c, cur, rfl, hb, hh, by omega, hc, hs, ?_⟩
    have hle : n * k ≤ (n + 1) * k := Nat.mul_le_mul_right k (by omega)
    have := congrArg (List.take (n * k)) ht
    rw [List.take_take, Nat.min_eq_left hle] at this
    rw [this, ← hx, List.take_left]
/-- Behind an append to a row of the call's own. -/
theorem own_grown {W w1 w2 : World} {B : Nat} {t : TypeId} {k n : Nat} {v : Value} {xs : List Value} (hB : W.heap.size ≤ B) (h : w1.ownsRow B t k v n xs) (hfr : Fresh W w1) (hg : w1.grownBy w2 v.ownBlock) : Fresh W w2 :=
  hfr.grown hg (fun g e => by have := (h.lt g e).1; omega)
end Go.Proofs.YthhdadfnkdjmkaaGreatDoor.v
namespace Go.Proofs.YthhdadfnkdjmkaaGreatDoor.y
open Go.ChangeShapes Go.WideShapes Go.ChangeAt Go.RowKit
attribute [local go_sem ↓] Go.wp_at_zero Go.wp_at_succ
variable {w : World}

/-- Cells at a place of a block read as these rows. -/
def RowsIn (w : World) (g o : Nat) (R : List Rw) : Prop := ∀ (i : Nat) (h : i < R.length) (j : Nat) (u : Value), (rcell R[i])[j]? = some u → w.cell? ⟨g, o + 4 * i + j, none⟩ = some u
/-- Rows that may be: not too many, not too long. -/
structure Fine (R : List Rw) : Prop where
  len : R.length ≤ 1000000
  row : ∀ r ∈ R, r.line ≤ 1000000 ∧ r.indent ≤ 1000000 ∧ r.text.length ≤ 90000 ∧ (r.dash = true ∨ (r.text ≠ [] ∧ r.text.getLast? ≠ some 32))
theorem Fine.tail {r : Rw} {R : List Rw} (h : Fine (r :: R)) : Fine R := ⟨by have := h.len; simp at this; omega, fun x hx => h.row x (List.mem_cons_of_mem _ hx)⟩
theorem Fine.head {r : Rw} {R : List Rw} (h : Fine (r :: R)) : r.line ≤ 1000000 ∧ r.indent ≤ 1000000 ∧ r.text.length ≤ 90000 ∧ (r.dash = true ∨ (r.text ≠ [] ∧ r.text.getLast? ≠ some 32)) := h.row r (List.mem_cons_self ..)
/-- A reader at block b: the rows that are left, the line. -/
def Rdr (w : World) (b : Nat) (R : List Rw) (line : Nat) : Prop :=
  ∃ (a : Option Addr) (c : Nat), w.heap[b]? = some (.cells #[.slice a R.length c, .int .i64 (line : Int)] 60 (0, 0)) ∧ R.length ≤ c ∧ c ≤ 9223372036854775807 ∧ (R = [] ∨ ∃ g o, a = some ⟨g, o, none⟩ ∧ g < b ∧ RowsIn w g o R)
/-- But for some blocks nothing that was has turned. -/
structure Wr (p : Nat → Prop) (w w' : World) : Prop where
  os : w'.os = w.os
  tape : w'.tape = w.tape
  output : w'.output = w.output
  size : w.heap.size ≤ w'.heap.size
  block : ∀ k, k < w.heap.size → ¬ p k → w'.heap[k]? = w.heap[k]?
theorem Wr.of_fresh {p : Nat → Prop} {w w' : World} (f : Fresh w w') : Wr p w w' := ⟨f.os, f.tape, f.output, f.size, fun i hi _ => f.block i hi⟩
theorem Wr.refl (p : Nat → Prop) (w : World) : Wr p w w := .of_fresh (Fresh.refl w)
theorem Wr.then {p q : Nat → Prop} {a b c : World} (h : Wr p a b) (k : Wr q b c) (hq : ∀ i, q i → p i ∨ a.heap.size ≤ i) : Wr p a c :=
  ⟨k.os.trans h.os, k.tape.trans h.tape, k.output.trans h.output, Nat.le_trans h.size k.size, fun i hi hp => (k.block i (Nat.lt_of_lt_of_le hi h.size) (fun hqi => by rcases hq i hqi with h1 | h1; exact hp h1; omega)).trans (h.block i hi hp)⟩
theorem Wr.trans {p : Nat → Prop} {a b c : World} (h : Wr p a b) (k : Wr p b c) : Wr p a c := h.then k fun _ => .inl
theorem Wr.mono {p q : Nat → Prop} {a b : World} (h : Wr p a b) (hq : ∀ i, p i → q i) : Wr q a b := ⟨h.os, h.tape, h.output, h.size, fun i hi hp => h.block i hi fun e => hp (hq i e)⟩
theorem Wr.fresh {p : Nat → Prop} {a b c : World} (h : Wr p a b) (f : Fresh b c) : Wr p a c := h.trans (.of_fresh f)
theorem Wr.up {p : Nat → Prop} {a b c : World} (f : Fresh a b) (h : Wr p b c) : Wr p a c := (Wr.of_fresh f).trans h
theorem Wr.alloc {p : Nat → Prop} {a b : World} (h : Wr p a b) (o : Obj) : Wr p a (b.alloc o) := h.fresh ((Fresh.refl _).alloc o)
theorem Wr.drew {p : Nat → Prop} {a b : World} (h : Wr p a b) : Wr p a b.drew := h.fresh (Fresh.refl _).drew
theorem Wr.set {p : Nat → Prop} {a b : World} (h : Wr p a b) {g i : Nat} (hg : p g ∨ a.heap.size ≤ g) (u : Value) : Wr p a (b.setCell ⟨g, i, none⟩ u) :=
  ⟨h.os, h.tape, h.output, by have := h.size; simpa [World.setCell] using this, fun k hk hp => (Below.heap_setCell _ _ _ _ (fun e => by dsimp only at e; subst e; rcases hg with h1 | h1; exact hp h1; omega)).trans (h.block k hk hp)⟩
theorem Wr.grown {p : Nat → Prop} {a b c : World} {row : Option Nat} (h : Wr p a b) (k : b.grownBy c row) (hr : ∀ g, row = some g → p g ∨ a.heap.size ≤ g) : Wr p a c :=
  h.then (q := fun i => row = some i) ⟨k.os, k.tape, k.output, k.size, fun i hi hp => k.block i hi fun e => hp e.symm⟩ hr
theorem Wr.at {p : Nat → Prop} {a b : World} (h : Wr p a b) {g : Nat} {o : Obj} (hg : ¬ p g) (hc : a.heap[g]? = some o) : b.heap[g]? = some o := by
  rw [h.block g (lt_of_at hc) hg]; exact hc
theorem Wr.cell {p : Nat → Prop} {a b : World} (h : Wr p a b) {g o : Nat} {u : Value} (hg : ¬ p g) (hc : a.cell? ⟨g, o, none⟩ = some u) : b.cell? ⟨g, o, none⟩ = some u :=
  (World.cell?_of_block (a := ⟨g, o, none⟩) (h.block g (World.block_lt_of_cell? a _ hc) hg)).trans hc
theorem Wr.toFresh {p : Nat → Prop} {a b : World} (h : Wr p a b) (hp : ∀ k, k < a.heap.size → ¬ p k) : Fresh a b := ⟨h.os, h.tape, h.output, h.size, fun k hk => h.block k hk (hp k hk)⟩
theorem Rdr.keep {p : Nat → Prop} {w w' : World} {b : Nat} {R : List Rw} {line : Nat} (h : Rdr w b R line) (f : Wr p w w') (hp : ∀ k, k ≤ b → ¬ p k) : Rdr w' b R line := by
  obtain ⟨a, c, hb, hc, hcm, hr⟩ := h
  refine ⟨a, c, f.at (hp b (Nat.le_refl _)) hb, hc, hcm, hr.imp_right ?_⟩
  rintro ⟨g, o, e, hg, hi⟩
  exact ⟨g, o, e, hg, fun i h j u hu => f.cell (hp g (Nat.le_of_lt hg)) (hi i h j u hu)⟩
theorem Rdr.move {w w' : World} {b : Nat} {R : List Rw} {line : Nat} (h : Rdr w b R line) (f : Fresh w w') : Rdr w' b R line := h.keep (p := fun _ => False) (.of_fresh f) fun _ _ => id
theorem Rdr.lt {w : World} {b : Nat} {R : List Rw} {line : Nat} (h : Rdr w b R line) : b < w.heap.size := by
  obtain ⟨a, c, hb, _⟩ := h
  exact lt_of_at hb
def rowV (r : Rw) : Value := .agg #[.int .i64 (r.line : Int), .int .i64 (r.indent : Int), .bool r.dash, .string (tx r.text)]
def misV (line : Nat) (e : Int) : Value := .agg #[.int .i64 (line : Int), .int .i64 e]
/-- How a method tells what is wrong. -/
def Panics (line : Nat) (c : Int) (e : Ending) : Prop := e = .panicked [{ v := .iface 30 (misV line c), recovered := false }]

theorem wrong_any (b : Nat) (R : List Rw) (line : Nat) (c : Int) (w : World) (h : Rdr w b R line) :
    Calls Tryz.prog 54 #[.pointer (some ⟨b, 0, none⟩), .int .i64 c] w fun e w' => e = .returned (misV line c) ∧ Fresh w w' := by
  obtain ⟨a, cap, hb, _⟩ := h
  have hlt := lt_of_at hb
  have c1 := cell_of_at hb (i := 1) rfl
  clear hb
  go_enter Tryz.func54, Tryz.ntmps54
  go_wp2
  exact bodyPost_ret (v := misV line c) (by simp [results, Tryz.results54, go_sem, misV]) rfl ⟨rfl, (Fresh.refl w).alloc _⟩
theorem mayHold_ok (b : Nat) (n : Nat) (w : World) (h : n < 32) :
    Calls Tryz.prog 112 #[.pointer (some ⟨b, 0, none⟩), .int .i64 (n : Int)] w fun e w' => e = .returned (.tuple #[]) ∧ w = w' := by
  have h' : ¬ (32 : Int) ≤ (n : Int) := by omega
  go_enter Tryz.func112, Tryz.ntmps112
  go_wp2
  go_end0
  exact ⟨rfl, rfl⟩
theorem mayHold_no (b : Nat) (R : List Rw) (line n : Nat) (w : World) (hr : Rdr w b R line) (h : 32 ≤ n) :
    Calls Tryz.prog 112 #[.pointer (some ⟨b, 0, none⟩), .int .i64 (n : Int)] w fun e w' => Panics line 9 e ∧ Fresh w w' := by
  have h' : (32 : Int) ≤ (n : Int) := by omega
  have HW := Lib.hid (wrong_any b R line 9 w hr)
  clear hr
  go_enter Tryz.func112, Tryz.ntmps112
  go_wp2_with (go_at_call 54; refine HW.out.mono ?_; rintro e w1 ⟨rfl, hf⟩; have HF := Lib.hid hf; clear hf)
  exact ⟨rfl, rfl, HF.out⟩
/-- Is there a row whose indent is greater? -/
def hasB (ind : Int) (R : List Rw) : Bool := match R with
  | [] => false
  | r :: _ => decide (ind < (r.indent : Int))
theorem hasBehind_any (b : Nat) (R : List Rw) (line : Nat) (ind : Int) (w : World) (h : Rdr w b R line) (hR : Fine R) :
    Calls Tryz.prog 52 #[.pointer (some ⟨b, 0, none⟩), .int .i64 ind] w fun e w' => e = .returned (.bool (hasB ind R)) ∧ w = w' := by
  obtain ⟨a, cap, hb, hc, hcm, hr⟩ := h
  have hlt := lt_of_at hb
  have c0 : w.cell? ⟨b, 0, none⟩ = some (.slice a R.length cap) := cell_of_at hb rfl
  clear hb
  cases R with
  | nil =>
    have H : Hid (hasB ind [] = false) := rfl
    generalize hasB ind [] = x at *
    obtain rfl := H.out
    clear H hr
    simp only [List.length_nil] at c0 hc
    go_enter Tryz.func52, Tryz.ntmps52
    go_wp2
    go_ret
    exact ⟨rfl, rfl⟩
  | cons r T =>
    obtain ⟨g, o, rfl, hg, hi⟩ := hr.resolve_left (by simp)
    have c1 : w.cell? ⟨g, o + 1, none⟩ = some (.int .i64 (r.indent : Int)) := hi 0 (by simp) 1 _ rfl
    have HL := hR.len
    rw [List.length_cons] at c0 hc HL
    generalize T.length = n at *
    have h0 : (0 : Int) < ((n + 1 : Nat) : Int) := by omega
    have hc' : n + 1 ≤ cap := hc
    clear hi hr hR hg
    cases hx : decide (ind < (r.indent : Int)) with
    | false =>
      have H : Hid (hasB ind (r :: T) = false) := hx
      generalize hasB ind (r :: T) = x at *
      obtain rfl := H.out
      have hx' : ¬ ind < (r.indent : Int) := of_decide_eq_false hx
      clear H hx
      go_enter Tryz.func52, Tryz.ntmps52
      go_wp2
      go_ret
      exact ⟨rfl, rfl⟩
    | true =>
      have H : Hid (hasB ind (r :: T) = true) := hx
      generalize hasB ind (r :: T) = x at *
      obtain rfl := H.out
      have hx' : ind < (r.indent : Int) := of_decide_eq_true hx
      clear H hx
      go_enter Tryz.func52, Tryz.ntmps52
      go_wp2
      go_ret
      exact ⟨rfl, rfl⟩
theorem next_any (b : Nat) (r : Rw) (T : List Rw) (line : Nat) (w : World) (h : Rdr w b (r :: T) line) (hR : Fine (r :: T)) :
    Calls Tryz.prog 53 #[.pointer (some ⟨b, 0, none⟩)] w fun e w' => e = .returned (rowV r) ∧ Rdr w' b T r.line ∧ Wr (· = b) w w' := by
  obtain ⟨a, cap, hb, hc, hcm, hr⟩ := h
  obtain ⟨g, o, rfl, hg, hi⟩ := hr.resolve_left (by simp)
  have hlt := lt_of_at hb
  have c0 : w.cell? ⟨b, 0, none⟩ = some (.slice (some ⟨g, o, none⟩) (T.length + 1) cap) := cell_of_at hb rfl
  have c1 : w.cell? ⟨b, 1, none⟩ = some (.int .i64 (line : Int)) := cell_of_at hb rfl
  have fr0 : w.frozen? ⟨b, 0, none⟩ = false := by simp [World.frozen?, hb]
  have fr1 : w.frozen? ⟨b, 1, none⟩ = false := by simp [World.frozen?, hb]
  have r0 : w.cell? ⟨g, o, none⟩ = some (.int .i64 (r.line : Int)) := hi 0 (by simp) 0 _ rfl
  have r1 : w.cell? ⟨g, o + 1, none⟩ = some (.int .i64 (r.indent : Int)) := hi 0 (by simp) 1 _ rfl
  have r2 : w.cell? ⟨g, o + 2, none⟩ = some (.bool r.dash) := hi 0 (by simp) 2 _ rfl
  have r3 : w.cell? ⟨g, o + 3, none⟩ = some (.string (tx r.text)) := hi 0 (by simp) 3 _ rfl
  have HL := hR.len
  rw [List.length_cons] at hc HL
  obtain ⟨a', hs, ha'⟩ : ∃ a' : Option Addr, (∀ W : World, (Instr.slice 55 (.slice (some ⟨g, o, none⟩) (T.length + 1) cap) (some (.int .i64 1)) none none).run Tryz.prog W = .ok (.slice a' T.length (cap - 1)) W) ∧ (T = [] ∨ a' = some ⟨g, o + 4, none⟩) := by
    by_cases h1 : cap = 1
    · subst h1
      refine ⟨some ⟨g, o, none⟩, fun W => ?_, .inl (List.eq_nil_of_length_eq_zero (by omega))⟩
      have h1 : (1 : Int) ≤ (T.length : Int) + 1 := by omega
      simp [go_sem, sliced, h1]
    · refine ⟨some ⟨g, o + 4, none⟩, fun W => ?_, .inr rfl⟩
      have h2 : (1 : Int) ≤ (T.length : Int) + 1 := by omega
      simp [go_sem, sliced, h1, h2, Addr.add]
  have hgb : g ≠ b := Nat.ne_of_lt hg
  have hlg : g < w.heap.size := World.block_lt_of_cell? w ⟨g, o, none⟩ r0
  have HS : Hid (Rdr ((w.setCell ⟨b, 0, none⟩ (.slice a' T.length (cap - 1))).setCell ⟨b, 1, none⟩ (.int .i64 (r.line : Int))) b T r.line) := by
    refine ⟨a', cap - 1, by simp [World.setCell, Array.getElem?_modify, hb], by omega, by omega, ?_⟩
    rcases ha' with ha' | ha'
    · exact .inl ha'
    · refine .inr ⟨g, o + 4, ha', hg, fun i h j u hu => ?_⟩
      have h1 := hi (i + 1) (by simpa using h) j u (by simpa using hu)
      rw [show o + 4 + 4 * i + j = o + 4 * (i + 1) + j by omega]
      rw [World.cell?_of_block (a := ⟨g, _, none⟩) (Below.heap_setCell _ ⟨b, 1, none⟩ _ g (Nat.ne_of_lt hg)), World.cell?_of_block (a := ⟨g, _, none⟩) (Below.heap_setCell _ ⟨b, 0, none⟩ _ g (Nat.ne_of_lt hg))]
      exact h1
  have HG : Hid (Wr (· = b) w ((w.setCell ⟨b, 0, none⟩ (.slice a' T.length (cap - 1))).setCell ⟨b, 1, none⟩ (.int .i64 (r.line : Int)))) := ((Wr.refl (fun k => k = b) w).set (.inl rfl) _).set (.inl rfl) _
  have HSL := Lib.hid hs
  clear hb hr hi hR ha' hs
  have hs := HSL.out
  go_enter Tryz.func53, Tryz.ntmps53
  go_wp2
  refine bodyPost_ret (v := rowV r) (by simp [results, Tryz.results53, go_sem, rowV]) rfl ⟨rfl, ?_, ?_⟩
  · exact ((HS.out.move ((Fresh.refl _).alloc _)).move ((Fresh.refl _).alloc _))
  · exact (HG.out.alloc _).alloc _
end Go.Proofs.YthhdadfnkdjmkaaGreatDoor.y
