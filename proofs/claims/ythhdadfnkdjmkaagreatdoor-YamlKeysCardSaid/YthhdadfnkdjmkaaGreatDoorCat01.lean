/-
  Rows of bytes in memory; what a text is when it is quoted. No call.
  What the rows of a text are, as functions of its bytes. No call.
  What stands ahead of a line's remark, by package ylines.
  Rows of texts and of rows in memory; the document's Lines.
-/
import Derived.Test.YthhdadfnkdjmkaaGreatDoorRows
import Derived.WalkKit
import Derived.ProofKit
import Derived.OpenShut
import Derived.ShutString
import Derived.WalkSpells
import Derived.WalkLawsBesides
import Derived.LoopTactic
import Derived.Lib.Hide
import Derived.Below
import Derived.Deep.OwnRows
import Derived.Deep.AppendLies
import Derived.Laws.IdiomStrings
import Derived.Laws.MakeOwn
import Derived.Deep.QuietTactic
import Derived.BigQuiet
import Derived.Deep.LoopGhost
import Derived.Deep.Draws
import Derived.Lib.TrimByte
import Derived.Lib.Bytealg
import Derived.Deep.DeepCutAuto
import Derived.Deep.CutRange
import Derived.Deep.CutBlock
import Derived.RegionTactic
import Derived.Deep.DrawnRows
namespace Go.Proofs.YthhdadfnkdjmkaaGreatDoor
open Go.ChangeShapes Go.WideShapes Go.ChangeAt Go.RowKit

/-- Of what was there nothing has turned; there may be new blocks. -/
def Fresh (w w' : World) : Prop := Below w.heap.size w w'
theorem Fresh.refl (w : World) : Fresh w w := Below.refl _ _
theorem Fresh.trans {a b c : World} (h : Fresh a b) (k : Fresh b c) : Fresh a c := Below.trans h (Below.mono k h.size)
theorem Fresh.alloc {a b : World} (h : Fresh a b) (o : Obj) : Fresh a (b.alloc o) := Below.alloc h h.size o
theorem Fresh.setCell {a b : World} (h : Fresh a b) {p : Addr} (hp : a.heap.size ≤ p.block) (u : Value) : Fresh a (b.setCell p u) := Below.setCell h hp u
theorem Fresh.drew {a b : World} (h : Fresh a b) : Fresh a b.drew := Below.drew h
theorem Fresh.below {a b c : World} {B : Nat} (h : Fresh a b) (k : Below B b c) (hB : a.heap.size ≤ B) : Fresh a c := Below.trans h (Below.mono k hB)
theorem Fresh.grown {a b c : World} (h : Fresh a b) {row : Option Nat} (hg : b.grownBy c row) (hr : ∀ g, row = some g → a.heap.size ≤ g) : Fresh a c := Below.grown h hg h.size hr
theorem lt_of_at {w : World} {k : Nat} {o : Obj} (hk : w.heap[k]? = some o) : k < w.heap.size := (Array.getElem?_eq_some_iff.1 hk).1
theorem at_alloc {w : World} {k : Nat} {o p : Obj} (hk : w.heap[k]? = some o) : (w.alloc p).heap[k]? = some o := by
  rw [Below.heap_alloc _ _ _ (lt_of_at hk)]; exact hk
theorem at_new (w : World) (o : Obj) : (w.alloc o).heap[w.heap.size]? = some o := by
  show (w.heap.push o)[w.heap.size]? = _
  simp
theorem cell_of_at {w : World} {b : Nat} {cs : Array Value} {t : TypeId} {z : Nat × Nat} (h : w.heap[b]? = some (.cells cs t z)) {i : Nat} {v : Value} (hi : cs[i]? = some v) : w.cell? ⟨b, i, none⟩ = some v := by
  simp [World.cell?, h, hi]
theorem addr_add0 (b n : Nat) : (⟨b, 0, none⟩ : Addr).add n = ⟨b, n, none⟩ := by
  unfold Addr.add
  split <;> simp_all
theorem grown_set (w : World) (g o : Nat) (u : Value) : w.grownBy (w.setCell ⟨g, o, none⟩ u) (some g) :=
  ⟨rfl, rfl, rfl, by simp [World.setCell], fun k _ hk => Below.heap_setCell _ _ _ _ (fun e => hk (by rw [e]))⟩
theorem info5 : (Tryz.prog.info? 5).map (fun i => (i.zero, i.size, i.bytes)) = some (some (.int .u8 0), 1, 1) := by kernel_rfl
theorem ret_int {k : IntKind} {a b : Int} (h : a = b) : Ending.returned (.int k a) = .returned (.int k b) := by rw [h]
theorem ret_bool {a b : Bool} (h : a = b) : Ending.returned (.bool a) = .returned (.bool b) := by rw [h]
theorem ret_string {a b : ByteArray} (h : a = b) : Ending.returned (.string a) = .returned (.string b) := by rw [h]

/-! ### rows of bytes -/
/-- Bytes as they lie in a row's cells. -/
def vals (l : List UInt8) : List Value := l.map fun c => .int .u8 (c.toNat : Int)
theorem vals_length (l : List UInt8) : (vals l).length = l.length := by simp [vals]
theorem vals_append (l m : List UInt8) : vals (l ++ m) = vals l ++ vals m := by simp [vals]
theorem vals_one (l : List UInt8) : ∀ u ∈ vals l, u.oneCell' = true := fun u hu => by
  unfold vals at hu
  obtain ⟨c, _, rfl⟩ := List.mem_map.1 hu
  rfl
theorem vals_get (l : List UInt8) (j : Nat) (u : Value) (h : (vals l)[j]? = some u) : ∃ hj : j < l.length, u = .int .u8 (l[j].toNat : Int) := by
  unfold vals at h
  rw [List.getElem?_map] at h
  by_cases hj : j < l.length
  · rw [List.getElem?_eq_getElem hj] at h
    exact ⟨hj, (Option.some.inj h).symm⟩
  · rw [List.getElem?_eq_none (by omega)] at h
    cases h
/-- A row of bytes that the call owns, from block B on. -/
def Buf (w : World) (B : Nat) (v : Value) (l : List UInt8) : Prop := w.ownsRow B 5 1 v l.length (vals l)
theorem Buf.lt {w : World} {B : Nat} {v : Value} {l : List UInt8} (h : Buf w B v l) : ∀ g, v.ownBlock = some g → B ≤ g ∧ g < w.heap.size := World.ownsRow.lt h
theorem Buf.alloc {w : World} {B : Nat} {v : Value} {l : List UInt8} (h : Buf w B v l) (o : Obj) : Buf (w.alloc o) B v l := World.ownsRow.alloc h o
theorem Buf.drew {w : World} {B : Nat} {v : Value} {l : List UInt8} (h : Buf w B v l) : Buf w.drew B v l := h
theorem Buf.kept {w w' : World} {B : Nat} {v : Value} {l : List UInt8} {row : Option Nat} (h : Buf w B v l) (hg : w.grownBy w' row) (hne : v.ownBlock = none ∨ v.ownBlock ≠ row) : Buf w' B v l := World.ownsRow.kept h hg hne
theorem Buf.fresh {w w' : World} {B : Nat} {v : Value} {l : List UInt8} (h : Buf w B v l) (hf : Fresh w w') : Buf w' B v l := by
  refine World.ownsRow.kept (row := none) h ⟨hf.os, hf.tape, hf.output, hf.size, fun k hk _ => hf.block k hk⟩ ?_
  rcases h' : v.ownBlock with _ | g
  · exact .inl rfl
  · exact .inr (by simp)
/-- What an append leaves behind. -/
theorem Buf.more {w' : World} {B : Nat} {v : Value} {l m : List UInt8} {k : Nat} (h : w'.ownsRow B 5 1 v (l.length + k) (vals l ++ vals m)) (hk : m.length = k) : Buf w' B v (l ++ m) := by
  unfold Buf
  rw [vals_append, List.length_append, hk]
  exact h
/-- 'string(b)' of such a row. -/
theorem Buf.text {w : World} {B : Nat} {g : Nat} {c n : Nat} {l : List UInt8} (h : Buf w B (.slice (some ⟨g, 0, none⟩) n c) l) : n = l.length ∧ (convert 145 9 (.slice (some ⟨g, 0, none⟩) n c)).run Tryz.prog w = .ok (.string ⟨l.toArray⟩) w := by
  have hn : n = l.length := by
    obtain ⟨_, ⟨h1, _⟩ | ⟨g', cap, cur, h1, _⟩⟩ := h
    · cases h1
    · injection h1
  subst hn
  refine ⟨rfl, run_convert_bytes_back (P := Tryz.prog) w 145 9 5 ⟨g, 0, none⟩ c l Tryz.underlying145 Tryz.underlying5 Tryz.underlying9 (fun j hj => ?_)⟩
  exact World.ownsRow.cells h rfl j _ (by unfold vals; rw [List.getElem?_map, List.getElem?_eq_getElem hj]; rfl)
theorem text_nil (w : World) : (convert 145 9 (.slice none 0 0)).run Tryz.prog w = .ok (.string ⟨#[]⟩) w := by
  rw [run_convert_bytes_string (P := Tryz.prog) w 145 9 5 none 0 0 Tryz.underlying145 Tryz.underlying5 Tryz.underlying9]
  rfl

/-! ### what is quoted -/
def hexB (n : Nat) : UInt8 := UInt8.ofNat (if n < 10 then 48 + n else 87 + n)
/-- A byte, between quotes. -/
def qB (c : UInt8) : List UInt8 :=
  if c = 34 ∨ c = 92 then [92, c] else if c = 10 then [92, 110] else if c = 13 then [92, 114] else if c = 9 then [92, 116] else if c = 8 then [92, 98] else if c = 12 then [92, 102]
  else if c.toNat < 32 then [92, 117, 48, 48, hexB (c.toNat / 16), hexB (c.toNat % 16)] else [c]
def qL (l : List UInt8) : List UInt8 := l.flatMap qB
def quoted (l : List UInt8) : List UInt8 := 34 :: (qL l ++ [34])
theorem qL_snoc (l : List UInt8) (c : UInt8) : qL (l ++ [c]) = qL l ++ qB c := by simp [qL]
theorem qB_len (c : UInt8) : (qB c).length ≤ 6 := by
  unfold qB
  repeat' split
  all_goals simp
theorem qL_len (l : List UInt8) : (qL l).length ≤ 6 * l.length := by
  induction l with
  | nil => simp [qL]
  | cons c l ih =>
    have := qB_len c
    have e : qL (c :: l) = qB c ++ qL l := by simp [qL]
    rw [e, List.length_append, List.length_cons]
    omega
theorem take_snoc (s : ByteArray) (k : Nat) (h : k < s.size) : s.data.toList.take (k + 1) = s.data.toList.take k ++ [s[k]] := by
  rw [List.take_succ_eq_append_getElem (by simpa using h)]; rfl
theorem c_of {c : UInt8} {n : Nat} (h : c.toNat = n) : c = UInt8.ofNat n := by
  rw [← h]; simp
end Go.Proofs.YthhdadfnkdjmkaaGreatDoor
namespace Go.Proofs.YthhdadfnkdjmkaaGreatDoor

/-! ### lines -/
def lnsA : List UInt8 → List UInt8 → List (List UInt8)
  | cur, [] => [cur]
  | cur, c :: r => if c = 10 then cur :: lnsA [] r else lnsA (cur ++ [c]) r
theorem lnsA_none : ∀ (a cur : List UInt8), (∀ c ∈ a, c ≠ 10) → lnsA cur a = [cur ++ a]
  | [], cur, _ => by simp [lnsA]
  | c :: r, cur, h => by
    rw [lnsA, if_neg (h c (by simp)), lnsA_none r _ (fun d hd => h d (by simp [hd]))]
    simp
theorem lnsA_cut : ∀ (a b cur : List UInt8), (∀ c ∈ a, c ≠ 10) → lnsA cur (a ++ 10 :: b) = (cur ++ a) :: lnsA [] b
  | [], b, cur, _ => by simp [lnsA]
  | c :: r, b, cur, h => by
    rw [List.cons_append, lnsA, if_neg (h c (by simp)), lnsA_cut r b _ (fun d hd => h d (by simp [hd]))]
    simp
theorem lnsA_ne (cur l : List UInt8) : lnsA cur l ≠ [] := by
  induction l generalizing cur with
  | nil => simp [lnsA]
  | cons c r ih =>
    rw [lnsA]
    split
    · simp
    · exact ih _
theorem lnsA_len (cur l : List UInt8) : (lnsA cur l).length ≤ l.length + 1 := by
  induction l generalizing cur with
  | nil => simp [lnsA]
  | cons c r ih =>
    rw [lnsA]
    split
    · have := ih []
      simp; omega
    · have := ih (cur ++ [c])
      simp; omega
/-- Where the first line ends. -/
theorem indexByte_none : ∀ (l : List UInt8) (c : UInt8), Go.Lib.indexByte l c = -1 → ∀ d ∈ l, d ≠ c
  | [], _, _, d, hd => by simp at hd
  | b :: l, c, h, d, hd => by
    have ge := Go.Lib.indexByte_ge l c
    unfold Go.Lib.indexByte at h
    by_cases hb : (b == c) = true
    · rw [if_pos hb] at h; omega
    · rw [if_neg hb] at h
      by_cases hx : (Go.Lib.indexByte l c == -1) = true
      · rcases List.mem_cons.1 hd with rfl | hd
        · simpa using hb
        · exact indexByte_none l c (by simpa using hx) d hd
      · rw [if_neg hx] at h
        have : Go.Lib.indexByte l c = -2 := by omega
        omega
theorem indexByte_some : ∀ (l : List UInt8) (c : UInt8) (k : Nat), Go.Lib.indexByte l c = k → k < l.length ∧ l = l.take k ++ c :: l.drop (k + 1) ∧ ∀ d ∈ l.take k, d ≠ c
  | [], _, k, h => by simp [Go.Lib.indexByte] at h
  | b :: l, c, k, h => by
    unfold Go.Lib.indexByte at h
    by_cases hb : (b == c) = true
    · rw [if_pos hb] at h
      obtain rfl : k = 0 := by omega
      have : b = c := by simpa using hb
      subst this
      simp
    · rw [if_neg hb] at h
      by_cases hx : (Go.Lib.indexByte l c == -1) = true
      · rw [if_pos hx] at h; omega
      · rw [if_neg hx] at h
        have ge := Go.Lib.indexByte_ge l c
        have hx' : Go.Lib.indexByte l c ≠ -1 := by simpa using hx
        obtain ⟨j, rfl⟩ : ∃ j, k = j + 1 := ⟨k - 1, by omega⟩
        obtain ⟨h1, h2, h3⟩ := indexByte_some l c j (by omega)
        refine ⟨by simp; omega, ?_, ?_⟩
        · simp only [List.take_succ_cons, List.drop_succ_cons, List.cons_append]
          rw [← h2]
        · intro d hd
          rw [List.take_succ_cons] at hd
          rcases List.mem_cons.1 hd with rfl | hd
          · simpa using hb
          · exact h3 d hd
theorem indexByte_cases (l : List UInt8) (c : UInt8) : Go.Lib.indexByte l c = -1 ∨ ∃ k : Nat, Go.Lib.indexByte l c = k := by
  have := Go.Lib.indexByte_ge l c
  by_cases h : Go.Lib.indexByte l c = -1
  · exact .inl h
  · exact .inr ⟨(Go.Lib.indexByte l c).toNat, by omega⟩

/-! ### the remark -/
/-- From a place on: how many bytes stand ahead of the remark; none, if a quoted part doesn't end. q: within a quoted part; s: a byte that counts for nothing; b: the beginning, or a blank ahead. -/
def remA : Bool → Bool → Bool → List UInt8 → Option Nat
  | q, _, _, [] => if q then none else some 0
  | q, s, b, c :: r =>
    if s then (remA q false (c == 32) r).map (· + 1)
    else if c = 92 then (remA q q (c == 32) r).map (· + 1)
    else if c = 34 then (remA (!q) false (c == 32) r).map (· + 1)
    else if c = 35 ∧ q = false ∧ b = true then some 0
    else (remA q false (c == 32) r).map (· + 1)
def rem (l : List UInt8) : Option Nat := remA false false true l
def blank (l : List UInt8) (i : Nat) : Bool := i == 0 || l.getD (i - 1) 0 == 32
/-- What is still to be gone over at place i. -/
def RemAt (l : List UInt8) (q s : Bool) (i : Nat) : Prop := rem l = (remA q s (blank l i) (l.drop i)).map (· + i)
theorem remAt_zero (l : List UInt8) : RemAt l false false 0 := by
  unfold RemAt rem blank
  simp
theorem blank_succ (l : List UInt8) (i : Nat) (h : i < l.length) : blank l (i + 1) = (l[i] == 32) := by
  unfold blank
  simp [List.getD_eq_getElem?_getD, h]
theorem map_add (o : Option Nat) (i : Nat) : (o.map (· + 1)).map (· + i) = o.map (· + (i + 1)) := by
  cases o with
  | none => rfl
  | some a => simp; omega
theorem remAt_skip {l : List UInt8} {q : Bool} {i : Nat} (h : i < l.length) (H : RemAt l q true i) : RemAt l q false (i + 1) := by
  unfold RemAt at *
  rw [H, List.drop_eq_getElem_cons h, remA, if_pos rfl, map_add, blank_succ l i h]
theorem remAt_back {l : List UInt8} {q : Bool} {i : Nat} (h : i < l.length) (e : l[i] = 92) (H : RemAt l q false i) : RemAt l q q (i + 1) := by
  unfold RemAt at *
  rw [H, List.drop_eq_getElem_cons h, remA, if_neg (by simp), if_pos e, map_add, blank_succ l i h]
theorem remAt_quote {l : List UInt8} {q : Bool} {i : Nat} (h : i < l.length) (e : l[i] = 34) (H : RemAt l q false i) : RemAt l (!q) false (i + 1) := by
  unfold RemAt at *
  rw [H, List.drop_eq_getElem_cons h, remA, if_neg (by simp), if_neg (by rw [e]; decide), if_pos e, map_add, blank_succ l i h]
theorem remAt_hash {l : List UInt8} {i : Nat} (h : i < l.length) (e : l[i] = 35) (hb : blank l i = true) (H : RemAt l false false i) : rem l = some i := by
  unfold RemAt at *
  rw [H, List.drop_eq_getElem_cons h, remA, if_neg (by simp), if_neg (by rw [e]; decide), if_neg (by rw [e]; decide), if_pos ⟨e, rfl, hb⟩]
  simp
theorem remAt_other {l : List UInt8} {q : Bool} {i : Nat} (h : i < l.length) (e1 : l[i] ≠ 92) (e2 : l[i] ≠ 34) (e3 : ¬ (l[i] = 35 ∧ q = false ∧ blank l i = true)) (H : RemAt l q false i) : RemAt l q false (i + 1) := by
  unfold RemAt at *
  rw [H, List.drop_eq_getElem_cons h, remA, if_neg (by simp), if_neg e1, if_neg e2, if_neg e3, map_add, blank_succ l i h]
theorem remAt_end {l : List UInt8} {q s : Bool} {i : Nat} (h : l.length ≤ i) (hi : i = l.length) (H : RemAt l q s i) : rem l = if q then none else some l.length := by
  unfold RemAt at *
  subst hi
  rw [H, List.drop_eq_nil_of_le h, remA]
  cases q <;> simp
/-- In a quoted part what is behind the end is nothing, too. -/
theorem remAt_over {l : List UInt8} {i : Nat} (h : l.length ≤ i) (H : RemAt l true false i) : rem l = none := by
  unfold RemAt at *
  rw [H, List.drop_eq_nil_of_le h, remA]
  simp
theorem remAt_two {l : List UInt8} {i : Nat} (h : i < l.length) (e : l[i] = 92) (H : RemAt l true false i) : RemAt l true false (i + 2) := by
  have H1 := remAt_back h e H
  by_cases h1 : i + 1 < l.length
  · exact remAt_skip h1 H1
  · unfold RemAt at *
    rw [List.drop_eq_nil_of_le (by omega), remA] at H1
    rw [List.drop_eq_nil_of_le (by omega), remA, H1]
    simp
theorem rem_le (l : List UInt8) (k : Nat) (h : rem l = some k) : k ≤ l.length := by
  have aux : ∀ (l : List UInt8) (q s b : Bool) (k : Nat), remA q s b l = some k → k ≤ l.length := by
    intro l
    induction l with
    | nil =>
      intro q s b k h
      rw [remA] at h
      cases q <;> simp at h
      simp; omega
    | cons c r ih =>
      intro q s b k h
      have step : ∀ q' s' b', (remA q' s' b' r).map (· + 1) = some k → k ≤ (c :: r).length := by
        intro q' s' b' h
        obtain ⟨j, hj, rfl⟩ := Option.map_eq_some_iff.1 h
        have := ih _ _ _ _ hj
        simp; omega
      rw [remA] at h
      split at h
      · exact step _ _ _ h
      · split at h
        · exact step _ _ _ h
        · split at h
          · exact step _ _ _ h
          · split at h
            · cases h; simp
            · exact step _ _ _ h
  exact aux l _ _ _ k h

/-! ### rows -/
structure Rw where
  line : Nat
  indent : Nat
  dash : Bool
  text : List UInt8
def dashB (l : List UInt8) : Bool := l == [45] || [45, 32].isPrefixOf l
/-- The rows of what is left of a line from a place on. -/
def rowsS (n : Nat) : Nat → List UInt8 → List Rw
  | _, [] => []
  | a, c :: r => if c = 32 then rowsS n (a + 1) r
    else if dashB (c :: r) = true then ⟨n, a, true, []⟩ :: rowsS n (a + 1) r
    else [⟨n, a, false, c :: r⟩]
theorem rowsS_blank (n a : Nat) (l : List UInt8) (h : a < l.length) (e : l[a] = 32) : rowsS n a (l.drop a) = rowsS n (a + 1) (l.drop (a + 1)) := by
  rw [List.drop_eq_getElem_cons h, rowsS, if_pos e]
theorem rowsS_dash (n a : Nat) (l : List UInt8) (h : a < l.length) (e : dashB (l.drop a) = true) : rowsS n a (l.drop a) = ⟨n, a, true, []⟩ :: rowsS n (a + 1) (l.drop (a + 1)) := by
  have hd := List.drop_eq_getElem_cons h
  have hc : l[a] ≠ 32 := by
    intro hc
    rw [hd, hc] at e
    simp [dashB] at e
  rw [hd, rowsS, if_neg hc, ← hd, if_pos e]
theorem rowsS_text (n a : Nat) (l : List UInt8) (h : a < l.length) (hc : l[a] ≠ 32) (e : dashB (l.drop a) = false) : rowsS n a (l.drop a) = [⟨n, a, false, l.drop a⟩] := by
  have hd := List.drop_eq_getElem_cons h
  rw [hd, rowsS, if_neg hc, ← hd, e, if_neg (by simp)]
theorem rowsS_end (n a : Nat) (l : List UInt8) (h : l.length ≤ a) : rowsS n a (l.drop a) = [] := by
  rw [List.drop_eq_nil_of_le h, rowsS]
theorem rowsS_len (n : Nat) : ∀ (l : List UInt8) (a : Nat), (rowsS n a l).length ≤ l.length
  | [], a => by simp [rowsS]
  | c :: r, a => by
    have := rowsS_len n r (a + 1)
    rw [rowsS]
    split
    · simp; omega
    · split
      · simp; omega
      · simp
/-- How many blanks stand ahead. -/
def blanks (l : List UInt8) : Nat := (l.takeWhile (· == 32)).length
theorem blanks_le (l : List UInt8) : blanks l ≤ l.length := by
  unfold blanks
  exact (List.takeWhile_prefix _).length_le
theorem trimLeft_len (l : List UInt8) : (Go.Lib.trimLeftB l 32).length = l.length - blanks l := by
  unfold Go.Lib.trimLeftB blanks
  have := congrArg List.length (List.takeWhile_append_dropWhile (p := (· == (32 : UInt8))) (l := l))
  rw [List.length_append] at this
  omega
theorem rowsS_blanks (n : Nat) : ∀ (l : List UInt8) (a : Nat), rowsS n a l = rowsS n (a + blanks l) (l.drop (blanks l))
  | [], a => by simp [blanks]
  | c :: r, a => by
    by_cases hc : c = 32
    · subst hc
      have e : blanks (32 :: r) = blanks r + 1 := by simp [blanks]
      rw [rowsS, if_pos rfl, rowsS_blanks n r (a + 1), e, List.drop_succ_cons]
      congr 1
      omega
    · have e : blanks (c :: r) = 0 := by simp [blanks, hc]
      rw [e]; simp
theorem blanks_head (l : List UInt8) (h : blanks l < l.length) : (l.drop (blanks l))[0]? ≠ some 32 := by
  induction l with
  | nil => simp [blanks] at h
  | cons c r ih =>
    by_cases hc : c = 32
    · subst hc
      have e : blanks (32 :: r) = blanks r + 1 := by simp [blanks]
      rw [e] at h ⊢
      rw [List.drop_succ_cons]
      exact ih (by simpa using h)
    · have e : blanks (c :: r) = 0 := by simp [blanks, hc]
      rw [e]
      simpa using hc

/-! ### a whole text -/
def lowB (l : List UInt8) : Bool := l.any fun c => decide (c.toNat < 32)
variable (V : List UInt8 → Bool)
def badL (l : List UInt8) : Bool := lowB l || !V l
def cutA : Nat → List (List UInt8) → List Rw → List Rw × Nat × Int
  | _, [], acc => (acc, 0, 0)
  | n, l :: ls, acc => if badL V l = true then ([], n, 10) else match rem l with
    | none => ([], n, 11)
    | some k => cutA (n + 1) ls (acc ++ rowsS n 0 (Go.Lib.trimRightB (l.take k) 32))
theorem cutA_bad {n : Nat} {l : List UInt8} {ls : List (List UInt8)} {acc : List Rw} (h : badL V l = true) : cutA V n (l :: ls) acc = ([], n, 10) := by
  rw [cutA, if_pos h]
theorem cutA_end {n : Nat} {l : List UInt8} {ls : List (List UInt8)} {acc : List Rw} (h : badL V l = false) (hr : rem l = none) : cutA V n (l :: ls) acc = ([], n, 11) := by
  rw [cutA, if_neg (by rw [h]; simp), hr]
theorem cutA_step {n : Nat} {l : List UInt8} {ls : List (List UInt8)} {acc : List Rw} {k : Nat} (h : badL V l = false) (hr : rem l = some k) : cutA V n (l :: ls) acc = cutA V (n + 1) ls (acc ++ rowsS n 0 (Go.Lib.trimRightB (l.take k) 32)) := by
  rw [cutA, if_neg (by rw [h]; simp), hr]
def cutL (l : List UInt8) : List Rw × Nat × Int := cutA V 0 (lnsA [] l) []
end Go.Proofs.YthhdadfnkdjmkaaGreatDoor
namespace Go.Proofs.YthhdadfnkdjmkaaGreatDoor
theorem lowB_step (l : List UInt8) (i : Nat) (h : i < l.length) (hc : 32 ≤ l[i].toNat) (H : lowB l = lowB (l.drop i)) : lowB l = lowB (l.drop (i + 1)) := by
  rw [H, List.drop_eq_getElem_cons h, lowB, lowB, List.any_cons, decide_eq_false (by omega), Bool.false_or]
theorem lowB_hit (l : List UInt8) (i : Nat) (h : i < l.length) (hc : l[i].toNat < 32) (H : lowB l = lowB (l.drop i)) : lowB l = true := by
  rw [H, List.drop_eq_getElem_cons h, lowB, List.any_cons, decide_eq_true hc, Bool.true_or]
theorem lowB_end (l : List UInt8) (i : Nat) (h : l.length ≤ i) (H : lowB l = lowB (l.drop i)) : lowB l = false := by
  rw [H, List.drop_eq_nil_of_le h]; rfl
theorem badL_low (V : List UInt8 → Bool) {l : List UInt8} (h : lowB l = true) : badL V l = true := by
  rw [badL, h]; rfl
theorem badL_of (V : List UInt8 → Bool) {l : List UInt8} (h : lowB l = false) : badL V l = !V l := by
  rw [badL, h]; rfl
end Go.Proofs.YthhdadfnkdjmkaaGreatDoor
namespace Go.Proofs.YthhdadfnkdjmkaaGreatDoor
open Go.ChangeShapes Go.WideShapes Go.ChangeAt Go.RowKit
attribute [local go_sem ↓] Go.wp_at_zero Go.wp_at_succ
variable {w : World}

theorem eqB {c : UInt8} {n : Nat} (h : c = UInt8.ofNat n) (hn : n < 256) : ((c.toNat : Int) == (n : Int)) = true := by
  subst h
  rw [beq_iff_eq, UInt8.toNat_ofNat']
  omega
theorem neB {c : UInt8} {n : Nat} (h : c ≠ UInt8.ofNat n) : ((c.toNat : Int) == (n : Int)) = false := by
  rw [beq_eq_false_iff_ne]
  intro e
  apply h
  have : c.toNat = n := by omega
  rw [← this]; simp
/-- What is told of a line. -/
def remRes (s : ByteArray) : Option Nat → Ending
  | some k => .returned (.tuple #[.string (s.extract 0 k), .bool true])
  | none => .returned (.tuple #[.string s, .bool false])
theorem extract_all (s : ByteArray) : s.extract 0 s.size = s := by
  simp
set_option maxRecDepth 100000 in
set_option maxHeartbeats 1000000 in
theorem rem_any (s : ByteArray) (w : World) (hs : s.size ≤ 1000000) : Calls Tryz.prog 50 #[.string s] w fun e w' => e = remRes s (rem s.data.toList) ∧ w = w' := by
  have hll : s.data.toList.length = s.size := by simp
  have HLL := Lib.hid hll
  clear hll
  go_enter Tryz.func50, Tryz.ntmps50
  go_wp2
  go_loop [4, 5, 10] (fun a4 a5 a10 => ∃ (q sk : Bool) (k : Nat), k ≤ s.size ∧ a4 = .bool q ∧ a5 = .bool sk ∧ a10 = .int .i64 k ∧ Hid (RemAt s.data.toList q sk k)) (fun _ _ a10 => s.size - (intOf a10).toNat)
  case atStart => exact ⟨false, false, 0, by omega, rfl, rfl, rfl, remAt_zero _⟩
  case round =>
    obtain ⟨q, sk, i, hi, rfl, rfl, rfl, HI⟩ := hrel
    by_cases hlt : i < s.size
    · have HL' : Hid (i < s.data.toList.length) := by rw [Hid, HLL.out]; exact hlt
      have HB : Hid (s.data.toList[i]'HL'.out = s[i]'hlt) := rfl
      cases sk with
      | true =>
        have HN := Lib.hid (remAt_skip HL'.out HI.out)
        go_wp2
        all_goals first | (exfalso; omega) | go_round
        all_goals first
          | exact ⟨_, _, i + 1, by omega, rfl, rfl, by simp, HN.out⟩
          | (simp [intOf]; omega)
      | false =>
        by_cases c92 : s[i] = 92
        · have e92 : ((s[i].toNat : Int) == 92) = true := eqB (n := 92) c92 (by omega)
          have HN := Lib.hid (remAt_back HL'.out (HB.out.trans c92) HI.out)
          clear c92
          go_wp2
          all_goals first | (exfalso; omega) | go_round
          all_goals first
            | exact ⟨_, _, i + 1, by omega, rfl, rfl, by simp, HN.out⟩
            | (simp [intOf]; omega)
        have e92 : ((s[i].toNat : Int) == 92) = false := neB (n := 92) c92
        by_cases c34 : s[i] = 34
        · have e34 : ((s[i].toNat : Int) == 34) = true := eqB (n := 34) c34 (by omega)
          have HN := Lib.hid (remAt_quote HL'.out (HB.out.trans c34) HI.out)
          clear c34 c92
          cases q <;> go_wp2
          all_goals first | (exfalso; omega) | go_round
          all_goals first
            | exact ⟨_, _, i + 1, by omega, rfl, rfl, by simp, HN.out⟩
            | (simp [intOf]; omega)
        have e34 : ((s[i].toNat : Int) == 34) = false := neB (n := 34) c34
        by_cases c35 : s[i] = 35
        · have e35 : ((s[i].toNat : Int) == 35) = true := eqB (n := 35) c35 (by omega)
          have x35 : (s[i].toNat : Int) = 35 := by simpa using e35
          cases q with
          | true =>
            have HN := Lib.hid (remAt_other HL'.out (by rw [HB.out]; exact c92) (by rw [HB.out]; exact c34) (by simp) HI.out)
            clear c34 c92 c35
            go_wp2
            all_goals first | (exfalso; omega) | go_round
            all_goals first
              | exact ⟨_, _, i + 1, by omega, rfl, rfl, by simp, HN.out⟩
              | (simp [intOf]; omega)
          | false =>
            rcases i with _ | j
            · have HN := Lib.hid (remAt_hash HL'.out (HB.out.trans c35) rfl HI.out)
              clear c34 c92 c35
              go_wp2
              all_goals first | (exfalso; omega) | skip
              go_ret2
              exact ⟨by rw [HN.out]; simp [remRes], rfl⟩
            · have hj : j < s.size := by omega
              have HBJ : Hid (blank s.data.toList (j + 1) = (s[j] == 32)) := blank_succ _ j (by rw [HLL.out]; exact hj)
              by_cases c32 : s[j] = 32
              · have e32 : ((s[j].toNat : Int) == 32) = true := eqB (n := 32) c32 (by omega)
                have HN := Lib.hid (remAt_hash HL'.out (HB.out.trans c35) (by rw [HBJ.out, c32]; rfl) HI.out)
                clear c34 c92 c35 c32
                go_wp2
                all_goals first | (exfalso; omega) | skip
                go_ret2
                exact ⟨by rw [HN.out]; simp [remRes], rfl⟩
              · have e32 : ((s[j].toNat : Int) == 32) = false := neB (n := 32) c32
                have HN := Lib.hid (remAt_other HL'.out (by rw [HB.out]; exact c92) (by rw [HB.out]; exact c34) (by rw [HBJ.out]; simp [c32]) HI.out)
                clear c34 c92 c35 c32
                go_wp2
                all_goals first | (exfalso; omega) | go_round
                all_goals first
                  | exact ⟨_, _, j + 1 + 1, by omega, rfl, rfl, by simp, HN.out⟩
                  | (simp [intOf]; omega)
        · have e35 : ((s[i].toNat : Int) == 35) = false := neB (n := 35) c35
          have x35 : (s[i].toNat : Int) ≠ 35 := by simpa using e35
          have HN := Lib.hid (remAt_other HL'.out (by rw [HB.out]; exact c92) (by rw [HB.out]; exact c34) (fun h => c35 (HB.out.symm.trans h.1)) HI.out)
          clear c34 c92 c35
          go_wp2
          all_goals first | (exfalso; omega) | go_round
          all_goals first
            | exact ⟨_, _, i + 1, by omega, rfl, rfl, by simp, HN.out⟩
            | (simp [intOf]; omega)
    · obtain rfl : i = s.size := by omega
      have HN := Lib.hid (remAt_end (by rw [HLL.out]; omega) HLL.out.symm HI.out)
      cases q with
      | true =>
        go_wp2
        go_ret2
        exact ⟨by rw [HN.out]; simp [remRes], rfl⟩
      | false =>
        go_wp2
        go_ret2
        refine ⟨?_, rfl⟩
        rw [HN.out]
        show _ = Ending.returned (.tuple #[.string (s.extract 0 s.data.toList.length), .bool true])
        rw [HLL.out, extract_all]
        rfl
end Go.Proofs.YthhdadfnkdjmkaaGreatDoor
namespace Go.Proofs.YthhdadfnkdjmkaaGreatDoor
open Go.ChangeShapes Go.WideShapes Go.ChangeAt Go.RowKit
attribute [local go_sem ↓] Go.wp_at_zero Go.wp_at_succ
variable {w : World}

def tx (l : List UInt8) : ByteArray := ⟨l.toArray⟩
theorem tx_toList (l : List UInt8) : (tx l).data.toList = l := by simp [tx]
theorem tx_size (l : List UInt8) : (tx l).size = l.length := by simp [tx, ByteArray.size]
theorem tx_of (s : ByteArray) : tx s.data.toList = s := by
  cases s; rfl
theorem tx_extract (s : ByteArray) (a b : Nat) : s.extract a b = tx ((s.data.toList.drop a).take (b - a)) := by
  conv => lhs; rw [← tx_of s]
  exact Lib.extract_mk _ _ _
/-! ### rows of texts -/
def scells (l : List (List UInt8)) : List Value := l.map fun x => .string (tx x)
theorem scells_snoc (l : List (List UInt8)) (x : List UInt8) : scells (l ++ [x]) = scells l ++ [.string (tx x)] := by simp [scells]
/-- A row of texts that the call owns, from block B on. -/
def SBuf (w : World) (B : Nat) (v : Value) (l : List (List UInt8)) : Prop := w.ownsRow B 9 1 v l.length (scells l)
theorem SBuf.lt {w : World} {B : Nat} {v : Value} {l : List (List UInt8)} (h : SBuf w B v l) : ∀ g, v.ownBlock = some g → B ≤ g ∧ g < w.heap.size := World.ownsRow.lt h
theorem SBuf.fresh {w w' : World} {B : Nat} {v : Value} {l : List (List UInt8)} (h : SBuf w B v l) (hf : Fresh w w') : SBuf w' B v l := by
  refine World.ownsRow.kept (row := none) h ⟨hf.os, hf.tape, hf.output, hf.size, fun k hk _ => hf.block k hk⟩ ?_
  rcases h' : v.ownBlock with _ | g
  · exact .inl rfl
  · exact .inr (by simp)
theorem SBuf.more {w' : World} {B : Nat} {v : Value} {l : List (List UInt8)} {x : List UInt8} (h : w'.ownsRow B 9 1 v (l.length + 1) (scells l ++ [.string (tx x)])) : SBuf w' B v (l ++ [x]) := by
  unfold SBuf
  rw [scells_snoc, List.length_append]
  exact h
theorem scells_get (l : List (List UInt8)) (j : Nat) (h : j < l.length) : (scells l)[j]? = some (.string (tx l[j])) := by
  unfold scells
  rw [List.getElem?_map, List.getElem?_eq_getElem h]; rfl
theorem SBuf.cell {w : World} {B g n cap : Nat} {l : List (List UInt8)} (h : SBuf w B (.slice (some ⟨g, 0, none⟩) n cap) l) (j : Nat) (hj : j < l.length) : w.cell? ⟨g, j, none⟩ = some (.string (tx l[j])) := by
  have := World.ownsRow.cells h rfl j _ (scells_get l j hj)
  rwa [addr_add0] at this
theorem info9 : (Tryz.prog.info? 9).map (fun i => (i.zero, i.size, i.bytes)) = some (some (.string ⟨#[]⟩), 1, 16) := by kernel_rfl
/-! ### rows of rows -/
def rcell (r : Rw) : List Value := [.int .i64 (r.line : Int), .int .i64 (r.indent : Int), .bool r.dash, .string (tx r.text)]
def rcells (l : List Rw) : List Value := l.flatMap rcell
theorem rcells_snoc (l : List Rw) (t : Rw) : rcells (l ++ [t]) = rcells l ++ rcell t := by simp [rcells]
theorem rcell_one (t : Rw) : ∀ u ∈ rcell t, u.oneCell' = true := fun u hu => by
  simp only [rcell, List.mem_cons, List.not_mem_nil, or_false] at hu
  rcases hu with rfl | rfl | rfl | rfl <;> rfl
/-- A row of rows that the call owns, from block B on. -/
def RBuf (ty : Nat) (w : World) (B : Nat) (v : Value) (l : List Rw) : Prop := w.ownsRow B ty 4 v l.length (rcells l)
theorem RBuf.lt {ty : Nat} {w : World} {B : Nat} {v : Value} {l : List Rw} (h : RBuf ty w B v l) : ∀ g, v.ownBlock = some g → B ≤ g ∧ g < w.heap.size := World.ownsRow.lt h
theorem RBuf.fresh {ty : Nat} {w w' : World} {B : Nat} {v : Value} {l : List Rw} (h : RBuf ty w B v l) (hf : Fresh w w') : RBuf ty w' B v l := by
  refine World.ownsRow.kept (row := none) h ⟨hf.os, hf.tape, hf.output, hf.size, fun k hk _ => hf.block k hk⟩ ?_
  rcases h' : v.ownBlock with _ | g
  · exact .inl rfl
  · exact .inr (by simp)
theorem RBuf.more {ty : Nat} {w' : World} {B : Nat} {v : Value} {l : List Rw} {t : Rw} (h : w'.ownsRow B ty 4 v (l.length + 1) (rcells l ++ rcell t)) : RBuf ty w' B v (l ++ [t]) := by
  unfold RBuf
  rw [rcells_snoc, List.length_append]
  exact h
theorem rcells_get (l : List Rw) : ∀ (i : Nat) (h : i < l.length) (j : Nat), j < 4 → (rcells l)[4 * i + j]? = (rcell l[i])[j]? := by
  induction l with
  | nil => intro i h; simp at h
  | cons t l ih =>
    intro i h j hj
    have e : rcells (t :: l) = rcell t ++ rcells l := by simp [rcells]
    have hl : (rcell t).length = 4 := rfl
    rw [e]
    rcases i with _ | i
    · rw [List.getElem?_append_left (by omega)]
      simp
    · rw [List.getElem?_append_right (by omega), hl, show 4 * (i + 1) + j - 4 = 4 * i + j by omega, ih i (by simpa using h) j hj]
      simp
theorem RBuf.cell {ty : Nat} {w : World} {B g n cap : Nat} {l : List Rw} (h : RBuf ty w B (.slice (some ⟨g, 0, none⟩) n cap) l) (i : Nat) (hi : i < l.length) (j : Nat) (hj : j < 4) {u : Value} (hu : (rcell l[i])[j]? = some u) : w.cell? ⟨g, 4 * i + j, none⟩ = some u := by
  have := World.ownsRow.cells h rfl (4 * i + j) u (by rw [rcells_get l i hi j hj]; exact hu)
  rwa [addr_add0] at this
theorem info32 : (Tryz.prog.info? 90).map (fun i => (i.zero, i.size, i.bytes)) = some (some (.agg #[.int .i64 0, .int .i64 0, .bool false, .string ⟨#[]⟩]), 4, 40) := by kernel_rfl
theorem info31 : (Tryz.prog.info? 66).map (fun i => (i.zero, i.size, i.bytes)) = some (some (.agg #[.int .i64 0, .int .i64 0, .bool false, .string ⟨#[]⟩]), 4, 40) := by kernel_rfl
theorem rnews (ty : Nat) (w : World) (t : Rw) : ∀ j u, (rcell t)[j]? = some u → (w.alloc (.cells #[.int .i64 (t.line : Int), .int .i64 (t.indent : Int), .bool t.dash, .string (tx t.text)] ty)).cell? ((⟨w.heap.size, 0, none⟩ : Addr).add j) = some u :=
  World.news_of_block (at_new w (.cells #[.int .i64 (t.line : Int), .int .i64 (t.indent : Int), .bool t.dash, .string (tx t.text)] ty))
theorem snews (w : World) (x : ByteArray) : ∀ j u, [Value.string x][j]? = some u → (w.alloc (.cells #[.string x] 9)).cell? ((⟨w.heap.size, 0, none⟩ : Addr).add j) = some u :=
  World.news_of_block (at_new w (.cells #[.string x] 9))
/-! ### Lines -/
def cur (l : List UInt8) (a b : Nat) : List UInt8 := (l.drop a).take (b - a)
theorem cur_self (l : List UInt8) (a : Nat) : cur l a a = [] := by simp [cur]
theorem cur_succ (l : List UInt8) (a b : Nat) (h : a ≤ b) (hb : b < l.length) : cur l a (b + 1) = cur l a b ++ [l[b]] := by
  unfold cur
  rw [show b + 1 - a = (b - a) + 1 by omega, List.take_succ_eq_append_getElem (by simp; omega)]
  congr 1
  simp [show a + (b - a) = b by omega]
/-- What is done, and what is left. -/
def LinesAt (l : List UInt8) (a b : Nat) (out : List (List UInt8)) : Prop := lnsA [] l = out ++ lnsA (cur l a b) (l.drop b)
theorem linesAt_zero (l : List UInt8) : LinesAt l 0 0 [] := by
  unfold LinesAt
  rw [cur_self]; rfl
theorem linesAt_byte {l : List UInt8} {a b : Nat} {out : List (List UInt8)} (h : LinesAt l a b out) (ha : a ≤ b) (hb : b < l.length) (hc : l[b] ≠ 10) : LinesAt l a (b + 1) out := by
  unfold LinesAt at *
  rw [h, List.drop_eq_getElem_cons hb, lnsA, if_neg hc, cur_succ l a b ha hb]
theorem linesAt_feed {l : List UInt8} {a b : Nat} {out : List (List UInt8)} (h : LinesAt l a b out) (hb : b < l.length) (hc : l[b] = 10) : LinesAt l (b + 1) (b + 1) (out ++ [cur l a b]) := by
  unfold LinesAt at *
  rw [h, List.drop_eq_getElem_cons hb, lnsA, if_pos hc, cur_self]
  simp
theorem linesAt_end {l : List UInt8} {a b : Nat} {out : List (List UInt8)} (h : LinesAt l a b out) (hb : b = l.length) : lnsA [] l = out ++ [cur l a b] := by
  unfold LinesAt at *
  rw [h, List.drop_eq_nil_of_le (by omega), lnsA]
def LinesIs (w : World) (L : List (List UInt8)) (e : Ending) (w' : World) : Prop :=
  (∃ g cap, e = .returned (.slice (some ⟨g, 0, none⟩) L.length cap) ∧ SBuf w' w.heap.size (.slice (some ⟨g, 0, none⟩) L.length cap) L) ∧ Fresh w w'
set_option maxRecDepth 100000 in
set_option maxHeartbeats 1000000 in
theorem lines_any (s : ByteArray) (w : World) (hs : s.size ≤ 1000000) : Calls Tryz.prog 56 #[.string s] w (LinesIs w (lnsA [] s.data.toList)) := by
  obtain ⟨i0, hi, hz0, hz1, hz2⟩ := info_parts info9
  have hll : s.data.toList.length = s.size := by simp
  have HLL := Lib.hid hll
  clear hll
  obtain ⟨L, hL⟩ : ∃ L, L = lnsA [] s.data.toList := ⟨_, rfl⟩
  rw [← hL]
  have HL := Lib.hid hL
  have HLN : Hid (L.length ≤ s.size + 1) := by rw [Hid, hL]; have := lnsA_len [] s.data.toList; simp at this; exact this
  have HEX : Hid (∀ a b, s.extract a b = tx (cur s.data.toList a b)) := fun a b => tx_extract s a b
  clear hL
  go_enter Tryz.func56, Tryz.ntmps56
  go_wp2
  go_loopw [3, 4, 5] (fun a3 a4 a5 wr => ∃ (a b : Nat) (out : List (List UInt8)) (v : Value), b ≤ s.size + 1 ∧ a ≤ b ∧ v = a3 ∧ a4 = .int .i64 a ∧ a5 = .int .i64 b ∧ Hid (b ≤ s.size → LinesAt s.data.toList a b out) ∧ Hid (s.size < b → L = out ∧ ∃ g n cap, v = .slice (some ⟨g, 0, none⟩) n cap) ∧ Hid (out.length ≤ b) ∧ Hid (SBuf wr w.heap.size v out) ∧ Hid (Fresh w wr)) (fun _ _ a5 _ => s.size + 1 - (intOf a5).toNat)
  case atStart => exact ⟨0, 0, [], .slice none 0 0, by omega, by omega, rfl, rfl, rfl, fun _ => linesAt_zero _, fun h => by omega, by simp [Hid], World.ownsRow_nil _ _ _ _, Fresh.refl _⟩
  case round =>
    obtain ⟨a, b, out, v, hb, ha, rfl, rfl, rfl, HAT, HEND, HLEN, HB, HF⟩ := hrel
    by_cases hlt : b < s.size + 1
    · have hbs : (b : Int) ≤ (s.size : Int) := by omega
      have hcl : out.length ≤ 1000001 := by have := HLEN.out; omega
      have q0 := HEX.out a b
      have hab : (a : Int) ≤ (b : Int) := by omega
      by_cases heq : b = s.size
      · subst heq
        have HN := Lib.hid (linesAt_end (HAT.out (Nat.le_refl _)) HLL.out.symm)
        have HCELL := Lib.hid (snews wr (tx (cur s.data.toList a s.size)))
        generalize cur s.data.toList a s.size = x at *
        go_wp2_with (at_builtin; refine Hid.out ?_)
        refine Lib.hid ?_
        refine wpList_append_lies _ rfl _ _ 104 rfl w.heap.size 9 i0 (.string ⟨#[]⟩) 1 16 Tryz.underlying104 hi hz0 hz1 hz2 rfl (by decide) v out.length (scells out) rfl (World.ownsRow.alloc HB.out _) ⟨wr.heap.size, 0, none⟩ 1 1 [.string (tx x)] rfl rfl HCELL.out (by simp [Value.oneCell']) (by decide) (by unfold maxLen; omega) (by omega) (by rw [World.size_alloc]; have := HF.out.size; omega) (wr.heap.size + 1) (by simp) ?_
        intro g cap w2 hown hgrow hat hlt2
        have HT2 := Lib.hid (SBuf.more hown)
        have HF2 := Lib.hid ((HF.out.alloc (.cells #[.string (tx x)] 9)).grown hgrow (fun g e => (HB.out.lt g e).1))
        clear hown hgrow hat hlt2
        go_wp2
        go_roundw
        case rel => exact ⟨s.size + 1, s.size + 1, out ++ [x], _, by omega, by omega, rfl, by simp, by simp, fun h => by omega, fun _ => ⟨by rw [HL.out]; exact HN.out, _, _, _, rfl⟩, by rw [Hid, List.length_append]; have := HLEN.out; simp; omega, HT2.out, HF2.out⟩
        case measure => simp [intOf]
      · have hlt' : b < s.size := by omega
        have hne : ((b : Int) == (s.size : Int)) = false := by rw [beq_eq_false_iff_ne]; omega
        have hne' : (b : Int) ≠ (s.size : Int) := by omega
        have HL' : Hid (b < s.data.toList.length) := by rw [Hid, HLL.out]; exact hlt'
        have HBY : Hid (s.data.toList[b]'HL'.out = s[b]'hlt') := rfl
        by_cases c10 : s[b] = 10
        · have e10 : ((s[b].toNat : Int) == 10) = true := eqB (n := 10) c10 (by omega)
          have x10 : (s[b].toNat : Int) = 10 := by simpa using e10
          have HN := Lib.hid (linesAt_feed (HAT.out (by omega)) HL'.out (HBY.out.trans c10))
          have HCELL := Lib.hid (snews wr (tx (cur s.data.toList a b)))
          clear c10
          generalize cur s.data.toList a b = x at *
          go_wp2_with (at_builtin; refine Hid.out ?_)
          all_goals try (exfalso; omega)
          refine Lib.hid ?_
          refine wpList_append_lies _ rfl _ _ 104 rfl w.heap.size 9 i0 (.string ⟨#[]⟩) 1 16 Tryz.underlying104 hi hz0 hz1 hz2 rfl (by decide) v out.length (scells out) rfl (World.ownsRow.alloc HB.out _) ⟨wr.heap.size, 0, none⟩ 1 1 [.string (tx x)] rfl rfl HCELL.out (by simp [Value.oneCell']) (by decide) (by unfold maxLen; omega) (by omega) (by rw [World.size_alloc]; have := HF.out.size; omega) (wr.heap.size + 1) (by simp) ?_
          intro g cap w2 hown hgrow hat hlt2
          have HT2 := Lib.hid (SBuf.more hown)
          have HF2 := Lib.hid ((HF.out.alloc (.cells #[.string (tx x)] 9)).grown hgrow (fun g e => (HB.out.lt g e).1))
          clear hown hgrow hat hlt2
          go_wp2
          go_roundw
          case rel => exact ⟨b + 1, b + 1, out ++ [x], _, by omega, by omega, rfl, by simp, by simp, fun _ => HN.out, fun h => by omega, by rw [Hid, List.length_append]; have := HLEN.out; simp; omega, HT2.out, HF2.out⟩
          case measure => simp [intOf]; omega
        · have e10 : ((s[b].toNat : Int) == 10) = false := neB (n := 10) c10
          have x10 : (s[b].toNat : Int) ≠ 10 := by simpa using e10
          have HN := Lib.hid (linesAt_byte (HAT.out (by omega)) ha HL'.out (by rw [HBY.out]; exact c10))
          clear c10
          go_wp2
          all_goals try (exfalso; omega)
          go_roundw
          case rel => exact ⟨a, b + 1, out, _, by omega, by omega, rfl, rfl, by simp, fun _ => HN.out, fun h => by omega, by have := HLEN.out; exact Nat.le_succ_of_le this, HB.out, HF.out⟩
          case measure => simp [intOf]; omega
    · obtain ⟨rfl, g, n, cap, rfl⟩ := HEND.out (by omega)
      have hlt3 : ¬ (b : Int) ≤ (s.size : Int) := by omega
      have hn : n = L.length := by
        obtain ⟨_, ⟨h1, _⟩ | ⟨g', cap', c2, h1, _⟩⟩ := HB.out
        · cases h1
        · injection h1
      subst hn
      go_wp2
      go_ret
      exact ⟨⟨g, cap, rfl, HB.out⟩, HF.out⟩
end Go.Proofs.YthhdadfnkdjmkaaGreatDoor
