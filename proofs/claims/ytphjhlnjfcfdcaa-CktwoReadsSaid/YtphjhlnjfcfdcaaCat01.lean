/-
  Labels and names, as functions of their bytes. No call.
  Rows of texts in memory.
  Images' names. No call.
  Rows in memory, wherever they begin.
  Files' names: ckone.File, and the document's answer.
  Plain facts on numbers as bytes, highest first, and on the row of cells that the program fills with them: no condition; nothing here speaks of the program.
  What each function of package pack that puts, and each of the document's answers for it, returns: for every number; texts as their theorems say.
-/
import Derived.Lib.Bytealg
import Derived.Test.YtphjhlnjfcfdcaaRows
import Derived.WalkKit
import Derived.ProofKit
import Derived.OpenShut
import Derived.ShutString
import Derived.WalkSpells
import Derived.WalkLawsBesides
import Derived.LoopTactic
import Derived.Lib.Hide
import Derived.Lib.UnsafeStr
import Derived.Lib.BufferWrite
import Derived.Lib.Walk
import Derived.Below
import Derived.Deep.OwnRows
import Derived.Deep.AppendLies
import Derived.Laws.IdiomStrings
import Derived.Laws.BitsAllLaws
import Derived.Laws.MakeOwn
import Derived.Deep.QuietTactic
import Derived.BigQuiet
import Derived.Deep.LoopGhost
import Derived.Deep.Draws
import Derived.BigGuardPart
namespace Go.Proofs.Ytphjhlnjfcfdcaa

/-! ### what points part -/
def lnsA : List UInt8 → List UInt8 → List (List UInt8)
  | cur, [] => [cur]
  | cur, c :: r => if c = 46 then cur :: lnsA [] r else lnsA (cur ++ [c]) r
theorem lnsA_none : ∀ (a cur : List UInt8), (∀ c ∈ a, c ≠ 46) → lnsA cur a = [cur ++ a]
  | [], cur, _ => by simp [lnsA]
  | c :: r, cur, h => by
    rw [lnsA, if_neg (h c (by simp)), lnsA_none r _ (fun d hd => h d (by simp [hd]))]
    simp
theorem lnsA_cut : ∀ (a b cur : List UInt8), (∀ c ∈ a, c ≠ 46) → lnsA cur (a ++ 46 :: b) = (cur ++ a) :: lnsA [] b
  | [], b, cur, _ => by simp [lnsA]
  | c :: r, b, cur, h => by
    rw [List.cons_append, lnsA, if_neg (h c (by simp)), lnsA_cut r b _ (fun d hd => h d (by simp [hd]))]
    simp
theorem lnsA_ne (cur l : List UInt8) : lnsA cur l ≠ [] := by
  induction l generalizing cur with
  | nil => simp [lnsA]
  | cons c r ih =>
    rw [lnsA]
    split
    · simp
    · exact ih _
theorem lnsA_len (cur l : List UInt8) : (lnsA cur l).length ≤ l.length + 1 := by
  induction l generalizing cur with
  | nil => simp [lnsA]
  | cons c r ih =>
    rw [lnsA]
    split
    · have := ih []
      simp; omega
    · have := ih (cur ++ [c])
      simp; omega
theorem indexByte_none : ∀ (l : List UInt8) (c : UInt8), Go.Lib.indexByte l c = -1 → ∀ d ∈ l, d ≠ c
  | [], _, _, d, hd => by simp at hd
  | b :: l, c, h, d, hd => by
    have ge := Go.Lib.indexByte_ge l c
    unfold Go.Lib.indexByte at h
    by_cases hb : (b == c) = true
    · rw [if_pos hb] at h; omega
    · rw [if_neg hb] at h
      by_cases hx : (Go.Lib.indexByte l c == -1) = true
      · rcases List.mem_cons.1 hd with rfl | hd
        · simpa using hb
        · exact indexByte_none l c (by simpa using hx) d hd
      · rw [if_neg hx] at h
        have : Go.Lib.indexByte l c = -2 := by omega
        omega
theorem indexByte_some : ∀ (l : List UInt8) (c : UInt8) (k : Nat), Go.Lib.indexByte l c = k → k < l.length ∧ l = l.take k ++ c :: l.drop (k + 1) ∧ ∀ d ∈ l.take k, d ≠ c
  | [], _, k, h => by simp [Go.Lib.indexByte] at h
  | b :: l, c, k, h => by
    unfold Go.Lib.indexByte at h
    by_cases hb : (b == c) = true
    · rw [if_pos hb] at h
      obtain rfl : k = 0 := by omega
      have : b = c := by simpa using hb
      subst this
      simp
    · rw [if_neg hb] at h
      by_cases hx : (Go.Lib.indexByte l c == -1) = true
      · rw [if_pos hx] at h; omega
      · rw [if_neg hx] at h
        have ge := Go.Lib.indexByte_ge l c
        have hx' : Go.Lib.indexByte l c ≠ -1 := by simpa using hx
        obtain ⟨j, rfl⟩ : ∃ j, k = j + 1 := ⟨k - 1, by omega⟩
        obtain ⟨h1, h2, h3⟩ := indexByte_some l c j (by omega)
        refine ⟨by simp; omega, ?_, ?_⟩
        · simp only [List.take_succ_cons, List.drop_succ_cons, List.cons_append]
          rw [← h2]
        · intro d hd
          rw [List.take_succ_cons] at hd
          rcases List.mem_cons.1 hd with rfl | hd
          · simpa using hb
          · exact h3 d hd
theorem indexByte_cases (l : List UInt8) (c : UInt8) : Go.Lib.indexByte l c = -1 ∨ ∃ k : Nat, Go.Lib.indexByte l c = k := by
  have := Go.Lib.indexByte_ge l c
  by_cases h : Go.Lib.indexByte l c = -1
  · exact .inl h
  · exact .inr ⟨(Go.Lib.indexByte l c).toNat, by omega⟩


theorem lnsA_mem : ∀ (l c x : List UInt8), x ∈ lnsA c l → x.length ≤ c.length + l.length
  | [], c, x, h => by
    simp [lnsA] at h
    simp [h]
  | b :: r, c, x, h => by
    rw [lnsA] at h
    split at h
    · rcases List.mem_cons.1 h with rfl | h
      · omega
      · have := lnsA_mem r [] x h
        simp at this ⊢; omega
    · have := lnsA_mem r _ x h
      simp at this ⊢; omega
/-! ### which bytes may be -/
def smallB (c : UInt8) : Bool := decide (97 ≤ c.toNat) && decide (c.toNat ≤ 122)
def capB (c : UInt8) : Bool := decide (65 ≤ c.toNat) && decide (c.toNat ≤ 90)
def digB (c : UInt8) : Bool := decide (48 ≤ c.toNat) && decide (c.toNat ≤ 57)
def inL (c : UInt8) : Bool := smallB c || (digB c || c == 45)
def inV (c : UInt8) : Bool := smallB c || (capB c || (digB c || c == 95))
/-- A label. -/
def labB (l : List UInt8) : Bool := (decide (1 ≤ l.length) && decide (l.length ≤ 63)) && (l.head? != some 45 && (l.getLast? != some 45 && l.all inL))
/-- A name. -/
def nameB (l : List UInt8) : Bool := (decide (1 ≤ l.length) && decide (l.length ≤ 253)) && (lnsA [] l).all labB
theorem inL_point : inL 46 = false := by decide
theorem labB_point {l : List UInt8} (h : labB l = true) : ∀ c ∈ l, c ≠ 46 := fun c hc e => by
  unfold labB at h
  simp only [Bool.and_eq_true] at h
  have := List.all_eq_true.1 h.2.2.2 c hc
  rw [e, inL_point] at this
  cases this
theorem labB_len {l : List UInt8} (h : labB l = true) : 1 ≤ l.length ∧ l.length ≤ 63 := by
  unfold labB at h
  simp only [Bool.and_eq_true, decide_eq_true_eq] at h
  exact h.1
/-- Parts, a point between each two. -/
def joinF : List (List UInt8) → List UInt8
  | [] => []
  | x :: r => r.foldl (fun s p => s ++ (46 :: p)) x
theorem lnsA_app : ∀ (a b cur : List UInt8), lnsA cur (a ++ 46 :: b) = lnsA cur a ++ lnsA [] b
  | [], b, cur => by simp [lnsA]
  | c :: r, b, cur => by
    rw [List.cons_append, lnsA, lnsA]
    by_cases h : c = 46
    · rw [if_pos h, if_pos h, lnsA_app r b []]; rfl
    · rw [if_neg h, if_neg h, lnsA_app r b _]
theorem join_fold : ∀ (r : List (List UInt8)) (s t : List UInt8), r.foldl (fun s p => s ++ (46 :: p)) (s ++ t) = s ++ r.foldl (fun s p => s ++ (46 :: p)) t
  | [], s, t => rfl
  | x :: r, s, t => by
    simp only [List.foldl_cons]
    rw [List.append_assoc, join_fold r s]
theorem join_lns : ∀ (l cur : List UInt8), joinF (lnsA cur l) = cur ++ l
  | [], cur => by simp [lnsA, joinF]
  | c :: r, cur => by
    rw [lnsA]
    by_cases h : c = 46
    · subst h
      rw [if_pos rfl]
      have ih := join_lns r []
      rcases hx : lnsA [] r with _ | ⟨x, t⟩
      · exact absurd hx (lnsA_ne _ _)
      · rw [hx] at ih
        show (t.foldl (fun s p => s ++ (46 :: p)) (cur ++ (46 :: x))) = _
        rw [show cur ++ 46 :: x = (cur ++ [46]) ++ x by simp, join_fold]
        have ih' : t.foldl (fun s p => s ++ (46 :: p)) x = r := by simpa [joinF] using ih
        rw [ih']; simp
    · rw [if_neg h, join_lns r]
      simp
/-- What the law's own loop makes of the parts that have come. -/
theorem joinF_snoc (l : List (List UInt8)) (x : List UInt8) : joinF (l ++ [x]) = if l = [] then x else joinF l ++ (46 :: x) := by
  cases l with
  | nil => simp [joinF]
  | cons y r => simp [joinF]
/-- One part: a label. -/
theorem one_label {l : List UInt8} (h : nameB l = true) : (decide ((lnsA [] l).length = 1)) = labB l := by
  unfold nameB at h
  simp only [Bool.and_eq_true] at h
  have hall := h.2
  cases hl : labB l with
  | true =>
    rw [lnsA_none l [] (labB_point hl)]
    simp
  | false =>
    rw [decide_eq_false_iff_not]
    intro h1
    have hj := join_lns l []
    rcases hx : lnsA [] l with _ | ⟨x, t⟩
    · exact absurd hx (lnsA_ne _ _)
    · rw [hx] at h1 hall hj
      obtain rfl : t = [] := by
        simpa using h1
      have : x = l := by simpa [joinF] using hj
      subst this
      simp [hl] at hall
/-- Two names, a point between. -/
theorem both_names (a b : List UInt8) (h : a.length + 1 + b.length ≤ 253) : nameB (a ++ 46 :: b) = (nameB a && nameB b) := by
  have key : ∀ l : List UInt8, l.length ≤ 253 → nameB l = (lnsA [] l).all labB := fun l hl => by
    unfold nameB
    cases l with
    | nil => simp [lnsA, labB]
    | cons c r =>
      rw [decide_eq_true (by simp), decide_eq_true hl]
      simp
  rw [key _ (by simp; omega), key a (by omega), key b (by omega), lnsA_app, List.all_append]
end Go.Proofs.Ytphjhlnjfcfdcaa
namespace Go.Proofs.Ytphjhlnjfcfdcaa
open Go.ChangeShapes Go.WideShapes Go.ChangeAt Go.RowKit

/-- Of what was there nothing has turned; there may be new blocks. -/
def Fresh (w w' : World) : Prop := Below w.heap.size w w'
theorem Fresh.refl (w : World) : Fresh w w := Below.refl _ _
theorem Fresh.trans {a b c : World} (h : Fresh a b) (k : Fresh b c) : Fresh a c := Below.trans h (Below.mono k h.size)
theorem Fresh.alloc {a b : World} (h : Fresh a b) (o : Obj) : Fresh a (b.alloc o) := Below.alloc h h.size o
theorem Fresh.setCell {a b : World} (h : Fresh a b) {p : Addr} (hp : a.heap.size ≤ p.block) (u : Value) : Fresh a (b.setCell p u) := Below.setCell h hp u
theorem Fresh.drew {a b : World} (h : Fresh a b) : Fresh a b.drew := Below.drew h
theorem Fresh.below {a b c : World} {B : Nat} (h : Fresh a b) (k : Below B b c) (hB : a.heap.size ≤ B) : Fresh a c := Below.trans h (Below.mono k hB)
theorem Fresh.grown {a b c : World} (h : Fresh a b) {row : Option Nat} (hg : b.grownBy c row) (hr : ∀ g, row = some g → a.heap.size ≤ g) : Fresh a c := Below.grown h hg h.size hr
theorem lt_of_at {w : World} {k : Nat} {o : Obj} (hk : w.heap[k]? = some o) : k < w.heap.size := (Array.getElem?_eq_some_iff.1 hk).1
theorem at_alloc {w : World} {k : Nat} {o p : Obj} (hk : w.heap[k]? = some o) : (w.alloc p).heap[k]? = some o := by
  rw [Below.heap_alloc _ _ _ (lt_of_at hk)]; exact hk
theorem at_new (w : World) (o : Obj) : (w.alloc o).heap[w.heap.size]? = some o := by
  show (w.heap.push o)[w.heap.size]? = _
  simp
theorem cell_of_at {w : World} {b : Nat} {cs : Array Value} {t : TypeId} {z : Nat × Nat} (h : w.heap[b]? = some (.cells cs t z)) {i : Nat} {v : Value} (hi : cs[i]? = some v) : w.cell? ⟨b, i, none⟩ = some v := by
  simp [World.cell?, h, hi]
theorem addr_add0 (b n : Nat) : (⟨b, 0, none⟩ : Addr).add n = ⟨b, n, none⟩ := by
  unfold Addr.add
  split <;> simp_all
theorem grown_set (w : World) (g o : Nat) (u : Value) : w.grownBy (w.setCell ⟨g, o, none⟩ u) (some g) :=
  ⟨rfl, rfl, rfl, by simp [World.setCell], fun k _ hk => Below.heap_setCell _ _ _ _ (fun e => hk (by rw [e]))⟩
theorem info5 : (Try.prog.info? 5).map (fun i => (i.zero, i.size, i.bytes)) = some (some (.int .u8 0), 1, 1) := by kernel_rfl
theorem ret_int {k : IntKind} {a b : Int} (h : a = b) : Ending.returned (.int k a) = .returned (.int k b) := by rw [h]
theorem ret_bool {a b : Bool} (h : a = b) : Ending.returned (.bool a) = .returned (.bool b) := by rw [h]
theorem ret_string {a b : ByteArray} (h : a = b) : Ending.returned (.string a) = .returned (.string b) := by rw [h]

def tx (l : List UInt8) : ByteArray := ⟨l.toArray⟩
theorem tx_toList (l : List UInt8) : (tx l).data.toList = l := by simp [tx]
theorem tx_size (l : List UInt8) : (tx l).size = l.length := by simp [tx, ByteArray.size]
theorem tx_of (s : ByteArray) : tx s.data.toList = s := by
  cases s; rfl
theorem tx_extract (s : ByteArray) (a b : Nat) : s.extract a b = tx ((s.data.toList.drop a).take (b - a)) := by
  conv => lhs; rw [← tx_of s]
  rw [Lib.extract_eq]; rfl
/-! ### rows of texts -/
def scells (l : List (List UInt8)) : List Value := l.map fun x => .string (tx x)
theorem scells_snoc (l : List (List UInt8)) (x : List UInt8) : scells (l ++ [x]) = scells l ++ [.string (tx x)] := by simp [scells]
/-- A row of texts that the call owns, from block B on. -/
def SBuf (w : World) (B : Nat) (v : Value) (l : List (List UInt8)) : Prop := w.ownsRow B 9 1 v l.length (scells l)
theorem SBuf.lt {w : World} {B : Nat} {v : Value} {l : List (List UInt8)} (h : SBuf w B v l) : ∀ g, v.ownBlock = some g → B ≤ g ∧ g < w.heap.size := World.ownsRow.lt h
theorem SBuf.fresh {w w' : World} {B : Nat} {v : Value} {l : List (List UInt8)} (h : SBuf w B v l) (hf : Fresh w w') : SBuf w' B v l := by
  refine World.ownsRow.kept (row := none) h ⟨hf.os, hf.tape, hf.output, hf.size, fun k hk _ => hf.block k hk⟩ ?_
  rcases h' : v.ownBlock with _ | g
  · exact .inl rfl
  · exact .inr (by simp)
theorem SBuf.more {w' : World} {B : Nat} {v : Value} {l : List (List UInt8)} {x : List UInt8} (h : w'.ownsRow B 9 1 v (l.length + 1) (scells l ++ [.string (tx x)])) : SBuf w' B v (l ++ [x]) := by
  unfold SBuf
  rw [scells_snoc, List.length_append]
  exact h
theorem scells_get (l : List (List UInt8)) (j : Nat) (h : j < l.length) : (scells l)[j]? = some (.string (tx l[j])) := by
  unfold scells
  rw [List.getElem?_map, List.getElem?_eq_getElem h]; rfl
theorem SBuf.cell {w : World} {B g n cap : Nat} {l : List (List UInt8)} (h : SBuf w B (.slice (some ⟨g, 0, none⟩) n cap) l) (j : Nat) (hj : j < l.length) : w.cell? ⟨g, j, none⟩ = some (.string (tx l[j])) := by
  have := World.ownsRow.cells h rfl j _ (scells_get l j hj)
  rwa [addr_add0] at this
theorem info9 : (Try.prog.info? 9).map (fun i => (i.zero, i.size, i.bytes)) = some (some (.string ⟨#[]⟩), 1, 16) := by kernel_rfl
theorem take_snoc (s : ByteArray) (k : Nat) (h : k < s.size) : s.data.toList.take (k + 1) = s.data.toList.take k ++ [s[k]] := by
  rw [List.take_succ_eq_append_getElem (by simpa using h)]; rfl
end Go.Proofs.Ytphjhlnjfcfdcaa
namespace Go.Proofs.Ytphjhlnjfcfdcaa

def inI (c : UInt8) : Bool := smallB c || (capB c || (digB c || (c == 46 || (c == 95 || (c == 45 || (c == 47 || (c == 58 || c == 64)))))))
def varB (l : List UInt8) : Bool := (decide (1 ≤ l.length) && decide (l.length ≤ 63)) && (!digB (l.headD 0) && l.all inV)
def imgB (l : List UInt8) : Bool := (decide (1 ≤ l.length) && decide (l.length ≤ 255)) && ((smallB (l.headD 0) || digB (l.headD 0)) && l.all inI)
end Go.Proofs.Ytphjhlnjfcfdcaa
namespace Go.Proofs.Ytphjhlnjfcfdcaa
open Go.ChangeShapes Go.WideShapes Go.ChangeAt Go.RowKit

theorem Fresh.cell {a b : World} (h : Fresh a b) {p : Addr} {v : Value} (hc : a.cell? p = some v) : b.cell? p = some v :=
  (Below.cell h (World.block_lt_of_cell? a p hc)).trans hc
theorem Fresh.at {a b : World} (h : Fresh a b) {k : Nat} {o : Obj} (hk : a.heap[k]? = some o) : b.heap[k]? = some o := by
  rw [h.block k (Array.getElem?_eq_some_iff.1 hk).1]; exact hk
theorem addr_add (b off n : Nat) : (⟨b, off, none⟩ : Addr).add n = ⟨b, off + n, none⟩ := by
  unfold Addr.add
  split <;> simp_all
/-- A slice at a reads as these cells, wherever it begins. -/
def RowAt (w : World) (a : Option Addr) (cs : List Value) : Prop :=
  cs = [] ∨ ∃ g o, a = some ⟨g, o, none⟩ ∧ ∀ j x, cs[j]? = some x → w.cell? ⟨g, o + j, none⟩ = some x
theorem RowAt.move {w w' : World} {a : Option Addr} {cs : List Value} (h : RowAt w a cs) (f : Fresh w w') : RowAt w' a cs := by
  rcases h with h | ⟨g, o, e, h⟩
  · exact .inl h
  · exact .inr ⟨g, o, e, fun j x hj => f.cell (h j x hj)⟩
theorem RowAt.nil (w : World) (a : Option Addr) : RowAt w a [] := .inl rfl
theorem RowAt.form {w : World} {a : Option Addr} {cs : List Value} (h : RowAt w a cs) (hne : cs ≠ []) : ∃ g o, a = some ⟨g, o, none⟩ ∧ ∀ j x, cs[j]? = some x → w.cell? ⟨g, o + j, none⟩ = some x := by
  rcases h with h | h
  · exact absurd h hne
  · exact h
theorem RowAt.owns {w : World} {B : Nat} {t : TypeId} {k n m c : Nat} {a : Option Addr} {xs : List Value} (h : w.ownsRow B t k (.slice a m c) n xs) : RowAt w a xs := by
  rcases h.2 with ⟨e, hn⟩ | ⟨g, cap, cur, e, _⟩
  · have := h.1
    rw [hn] at this
    exact .inl (List.eq_nil_of_length_eq_zero (by simpa using this))
  · cases e
    exact .inr ⟨g, 0, rfl, fun j x hj => by rw [Nat.zero_add, ← addr_add0]; exact h.cells (g := g) rfl j x hj⟩
theorem flat_length {α : Type} (f : α → List Value) (k : Nat) (h : ∀ x, (f x).length = k) (l : List α) : (l.flatMap f).length = l.length * k := by
  induction l with
  | nil => simp
  | cons a l ih => simp only [List.flatMap_cons, List.length_append, ih, h, List.length_cons, Nat.succ_mul]; omega
theorem flat_get {α : Type} (f : α → List Value) (k : Nat) (h : ∀ x, (f x).length = k) (l : List α) : ∀ (i : Nat) (hi : i < l.length) (j : Nat), j < k → (l.flatMap f)[i * k + j]? = (f l[i])[j]? := by
  induction l with
  | nil => intro i hi; simp at hi
  | cons a l ih =>
    intro i hi j hj
    rw [List.flatMap_cons]
    cases i with
    | zero => rw [List.getElem?_append_left (by rw [h]; omega)]; simp
    | succ i =>
      have e : (i + 1) * k + j = k + (i * k + j) := by rw [Nat.succ_mul]; omega
      rw [List.getElem?_append_right (by rw [h]; omega), h, e, Nat.add_sub_cancel_left]
      exact ih i (by simpa using hi) j hj

end Go.Proofs.Ytphjhlnjfcfdcaa
namespace Go.Proofs.Ytphjhlnjfcfdcaa
open Go.ChangeShapes Go.WideShapes Go.ChangeAt Go.RowKit
theorem empty_file {s : ByteArray} (h : s.size = 0) : s = ⟨#[]⟩ := ByteArray.ext (Array.eq_empty_of_size_eq_zero h)

def inFI (n : Int) : Bool := decide (97 ≤ n ∧ n ≤ 122) || decide (48 ≤ n ∧ n ≤ 57) || n == 46 || n == 95 || n == 45 || n == 47
def fileB (s : ByteArray) : Bool := decide (1 ≤ s.size ∧ s.size ≤ 64) && s.data.toList.all fun c => inFI c.toNat
theorem fileB_size {s : ByteArray} (h : fileB s = true) : 1 ≤ s.size ∧ s.size ≤ 64 := by
  unfold fileB at h
  simp only [Bool.and_eq_true, decide_eq_true_eq] at h
  exact h.1
theorem fileB_short {s : ByteArray} (h : s.size < 1 ∨ 64 < s.size) : fileB s = false := by
  unfold fileB
  rw [decide_eq_false (by omega)]; rfl
theorem fileB_bad {s : ByteArray} {k : Nat} (hk : k < s.size) (h : inFI s[k].toNat = false) : fileB s = false := by
  cases e : fileB s with
  | false => rfl
  | true =>
    unfold fileB at e
    simp only [Bool.and_eq_true, List.all_eq_true] at e
    have := e.2 s[k] (by
      have : s[k] = s.data.toList[k]'(by simpa using hk) := rfl
      rw [this]; exact List.getElem_mem _)
    rw [h] at this; cases this
theorem fileB_good {s : ByteArray} (h1 : 1 ≤ s.size) (h2 : s.size ≤ 64) (h : ∀ j (hj : j < s.size), inFI s[j].toNat = true) : fileB s = true := by
  unfold fileB
  rw [decide_eq_true ⟨h1, h2⟩, Bool.true_and, List.all_eq_true]
  intro c hc
  obtain ⟨j, hj, rfl⟩ := List.mem_iff_getElem.1 hc
  exact h j (by simpa using hj)

theorem inf_no_cases {n : Int} (h : inFI n = false) : ¬ (97 ≤ n ∧ n ≤ 122) ∧ ¬ (48 ≤ n ∧ n ≤ 57) ∧ n ≠ 46 ∧ n ≠ 95 ∧ n ≠ 45 ∧ n ≠ 47 := by
  simp [inFI] at h; omega
theorem inf_yes_cases {n : Int} (h : inFI n = true) : (97 ≤ n ∧ n ≤ 122) ∨ (48 ≤ n ∧ n ≤ 57) ∨ n = 46 ∨ n = 95 ∨ n = 45 ∨ n = 47 := by
  simp [inFI] at h; omega
set_option maxHeartbeats 400000 in
theorem inf_yes (n : Int) (w : World) (h : inFI n = true) : Calls Try.prog 46 #[.int .u8 n] w fun e w' => e = .returned (.bool true) ∧ w = w' := by
  rcases inf_yes_cases h with ⟨a1, a2⟩ | ⟨a1, a2⟩ | rfl | rfl | rfl | rfl
  all_goals
    clear h
    go_enter Try.func46, Try.ntmps46
    go_wp2
    go_ret
    exact ⟨rfl, rfl⟩
set_option maxHeartbeats 400000 in
theorem inf_no (n : Int) (w : World) (h : inFI n = false) : Calls Try.prog 46 #[.int .u8 n] w fun e w' => e = .returned (.bool false) ∧ w = w' := by
  obtain ⟨c1, c2, c3, c4, c5, c6⟩ := inf_no_cases h
  have e3 : (n == 46) = false := by simpa using c3
  have e4 : (n == 95) = false := by simpa using c4
  have e5 : (n == 45) = false := by simpa using c5
  have e6 : (n == 47) = false := by simpa using c6
  clear h c3 c4 c5 c6
  by_cases d1 : 97 ≤ n
  · have d2 : ¬ n ≤ 122 := by omega
    have d3 : 48 ≤ n := by omega
    have d4 : ¬ n ≤ 57 := by omega
    clear c1 c2
    go_enter Try.func46, Try.ntmps46
    go_wp2
    go_ret
    exact ⟨rfl, rfl⟩
  by_cases d3 : 48 ≤ n
  · have d4 : ¬ n ≤ 57 := by omega
    clear c1 c2
    go_enter Try.func46, Try.ntmps46
    go_wp2
    go_ret
    exact ⟨rfl, rfl⟩
  · clear c1 c2
    go_enter Try.func46, Try.ntmps46
    go_wp2
    go_ret
    exact ⟨rfl, rfl⟩

def GoodF (s : ByteArray) (k : Nat) : Prop := ∀ j (hj : j < s.size), j < k → inFI s[j].toNat = true
set_option maxHeartbeats 400000 in
theorem file_any (s : ByteArray) (w : World) (hs : s.size ≤ maxLen) : Calls Try.prog 18 #[.string s] w fun e w' => e = .returned (.bool (fileB s)) ∧ w = w' := by
  unfold maxLen at hs
  by_cases h1 : s.size < 1
  · have H := Lib.hid (fileB_short (.inl h1))
    obtain rfl : s = ⟨#[]⟩ := ByteArray.ext (Array.eq_empty_of_size_eq_zero (by change s.size = 0; omega))
    clear h1 hs
    go_enter Try.func18, Try.ntmps18
    go_wp2
    go_ret
    exact ⟨by rw [H.out]; rfl, rfl⟩
  by_cases h2 : 64 < s.size
  · have H := Lib.hid (fileB_short (.inr h2))
    go_enter Try.func18, Try.ntmps18
    go_wp2
    go_ret
    exact ⟨by rw [H.out]; rfl, rfl⟩
  have h3 : 1 ≤ s.size := by omega
  have h4 : s.size ≤ 64 := by omega
  go_enter Try.func18, Try.ntmps18
  go_wp2
  go_loop [14] (fun i => ∃ k : Nat, k ≤ s.size ∧ i = .int .i64 k ∧ GoodF s k) (fun i => s.size - (intOf i).toNat)
  case atStart => exact ⟨0, Nat.zero_le _, rfl, fun j _ hj => absurd hj (Nat.not_lt_zero _)⟩
  case round =>
    obtain ⟨k, hk, rfl, hG⟩ := hrel
    by_cases hlt : k < s.size
    · cases hm : inFI s[k].toNat with
      | false =>
        have H := Lib.hid (fileB_bad hlt hm)
        have HM := Lib.hid hm
        clear hm
        go_wp2_with (go_at_call 46; refine (inf_no _ _ HM.out).mono ?_; rintro e w' ⟨rfl, rfl⟩)
        go_ret
        exact ⟨by rw [H.out]; rfl, rfl⟩
      | true =>
        have HM := Lib.hid hm
        have HG : Hid (GoodF s (k + 1)) := fun j hj hjk => by
          by_cases e : j = k
          · subst e; exact HM.out
          · exact hG j hj (by omega)
        clear hm hG
        go_wp2_with (go_at_call 46; refine (inf_yes _ _ HM.out).mono ?_; rintro e w' ⟨rfl, rfl⟩)
        go_round
        case rel => exact ⟨k + 1, by omega, by go_num, HG.out⟩
        case measure => simp [intOf]; omega
    · have H : Hid (fileB s = true) := fileB_good (by omega) (by omega) (fun j hj => hG j hj (by omega))
      clear hG
      go_wp2
      go_ret
      exact ⟨by rw [H.out]; rfl, rfl⟩
set_option maxRecDepth 100000 in
set_option maxHeartbeats 1000000 in
theorem rfile_any (s : ByteArray) (w : World) (hs : s.size ≤ maxLen) : Calls Try.prog 19 #[.string s] w fun e w' => e = .returned (.bool (fileB s)) ∧ w = w' := by
  unfold maxLen at hs
  by_cases h1 : s.size < 1
  · have H := Lib.hid (fileB_short (.inl h1))
    obtain rfl : s = ⟨#[]⟩ := empty_file (by omega)
    clear h1 hs
    go_enter Try.func19, Try.ntmps19
    go_wp2
    go_ret
    exact ⟨by rw [H.out]; rfl, rfl⟩
  by_cases h2 : 64 < s.size
  · have H := Lib.hid (fileB_short (.inr h2))
    have h3 : (64 : Int) < (s.size : Int) := by omega
    have h4 : ¬ (s.size : Int) < 1 := by omega
    clear h1 h2
    go_enter Try.func19, Try.ntmps19
    go_wp2
    all_goals try (exfalso; omega)
    go_ret
    exact ⟨by rw [H.out]; rfl, rfl⟩
  have h3 : 1 ≤ s.size := by omega
  have h4 : s.size ≤ 64 := by omega
  clear h1 h2
  have g1 : ¬ (s.size : Int) < 1 := by omega
  have g2 : ¬ (64 : Int) < (s.size : Int) := by omega
  go_enter Try.func19, Try.ntmps19
  go_wp2
  go_loop [3] (fun i => ∃ k : Nat, k ≤ s.size ∧ i = .int .i64 k ∧ GoodF s k) (fun i => s.size - (intOf i).toNat)
  case atStart => exact ⟨0, Nat.zero_le _, rfl, fun j _ hj => absurd hj (Nat.not_lt_zero _)⟩
  case round =>
    obtain ⟨k, hk, rfl, hG⟩ := hrel
    by_cases hlt : k < s.size
    · have hc : 0 ≤ (s[k].toNat : Int) ∧ (s[k].toNat : Int) ≤ 255 := by have := s[k].toNat_lt; omega
      cases hm : inFI s[k].toNat with
      | false =>
        have H := Lib.hid (fileB_bad hlt hm)
        obtain ⟨c1, c2, c3, c4, c5, c6⟩ := inf_no_cases hm
        have e3 : ((s[k].toNat : Int) == 46) = false := by simpa using c3
        have e4 : ((s[k].toNat : Int) == 95) = false := by simpa using c4
        have e5 : ((s[k].toNat : Int) == 45) = false := by simpa using c5
        have e6 : ((s[k].toNat : Int) == 47) = false := by simpa using c6
        clear hm hG c3 c4 c5 c6
        by_cases d1 : 97 ≤ (s[k].toNat : Int)
        · have d2 : ¬ (s[k].toNat : Int) ≤ 122 := by omega
          have d3 : 48 ≤ (s[k].toNat : Int) := by omega
          have d4 : ¬ (s[k].toNat : Int) ≤ 57 := by omega
          clear c1 c2
          go_wp2
          go_ret
          exact ⟨by rw [H.out]; rfl, rfl⟩
        by_cases d3 : 48 ≤ (s[k].toNat : Int)
        · have d4 : ¬ (s[k].toNat : Int) ≤ 57 := by omega
          clear c1 c2
          go_wp2
          go_ret
          exact ⟨by rw [H.out]; rfl, rfl⟩
        · clear c1 c2
          go_wp2
          go_ret
          exact ⟨by rw [H.out]; rfl, rfl⟩
      | true =>
        have HM := Lib.hid hm
        have HG : Hid (GoodF s (k + 1)) := fun j hj hjk => by
          by_cases e : j = k
          · subst e; exact HM.out
          · exact hG j hj (by omega)
        clear hG
        have hcs := inf_yes_cases hm
        clear hm
        by_cases d1 : 97 ≤ (s[k].toNat : Int)
        · have d2 : (s[k].toNat : Int) ≤ 122 := by omega
          clear hcs
          go_wp2
          go_round
          case rel => exact ⟨k + 1, by omega, by go_num, HG.out⟩
          case measure => simp [intOf]; omega
        by_cases d3 : 48 ≤ (s[k].toNat : Int)
        · by_cases d4 : (s[k].toNat : Int) ≤ 57
          · clear hcs
            go_wp2
            go_round
            case rel => exact ⟨k + 1, by omega, by go_num, HG.out⟩
            case measure => simp [intOf]; omega
          · have e3 : ((s[k].toNat : Int) == 46) = false := by simp; omega
            have e4 : ((s[k].toNat : Int) == 95) = true := by simp; omega
            clear hcs
            go_wp2
            go_round
            case rel => exact ⟨k + 1, by omega, by go_num, HG.out⟩
            case measure => simp [intOf]; omega
        · have e4 : ((s[k].toNat : Int) == 95) = false := by simp; omega
          by_cases f3 : (s[k].toNat : Int) = 46
          · have e3 : ((s[k].toNat : Int) == 46) = true := by simpa using f3
            clear hcs f3
            go_wp2
            go_round
            case rel => exact ⟨k + 1, by omega, by go_num, HG.out⟩
            case measure => simp [intOf]; omega
          · have e3 : ((s[k].toNat : Int) == 46) = false := by simpa using f3
            by_cases f5 : (s[k].toNat : Int) = 45
            · have e5 : ((s[k].toNat : Int) == 45) = true := by simpa using f5
              clear hcs f3 f5
              go_wp2
              go_round
              case rel => exact ⟨k + 1, by omega, by go_num, HG.out⟩
              case measure => simp [intOf]; omega
            · have e5 : ((s[k].toNat : Int) == 45) = false := by simpa using f5
              have e6 : ((s[k].toNat : Int) == 47) = true := by simp; omega
              clear hcs f3 f5
              go_wp2
              go_round
              case rel => exact ⟨k + 1, by omega, by go_num, HG.out⟩
              case measure => simp [intOf]; omega
    · have H : Hid (fileB s = true) := fileB_good (by omega) (by omega) (fun j hj => hG j hj (by omega))
      clear hG
      go_wp2
      go_ret
      exact ⟨by rw [H.out]; rfl, rfl⟩
end Go.Proofs.Ytphjhlnjfcfdcaa
namespace Go.Proofs.Ytphjhlnjfcfdcaa

/-- n is 1, 2, 4 or 8. -/
def okN (n : Int) : Bool := n == 1 || n == 2 || n == 4 || n == 8
theorem okN_cases {n : Int} (h : okN n = true) : n = 1 ∨ n = 2 ∨ n = 4 ∨ n = 8 := by
  simp [okN] at h; omega
theorem okN_not {n : Int} (h : okN n = false) : n ≠ 1 ∧ n ≠ 2 ∧ n ≠ 4 ∧ n ≠ 8 := by
  simp [okN] at h; omega

/-- The byte of v that stands k places above the lowest. -/
def dig (v k : Nat) : UInt8 := UInt8.ofNat (v / 256 ^ k)
/-- The k lowest bytes of v, the highest first. -/
def be : Nat → Nat → List UInt8
  | 0, _ => []
  | k + 1, v => dig v k :: be k v
def beS (n v : Nat) : ByteArray := ⟨(be n v).toArray⟩
theorem be_length (n v : Nat) : (be n v).length = n := by
  induction n with
  | zero => rfl
  | succ n ih => simp [be, ih]
theorem beS_size (n v : Nat) : (beS n v).size = n := by
  show (be n v).toArray.size = n
  simp [be_length]
theorem beS_zero (v : Nat) : beS 0 v = ⟨#[]⟩ := rfl
theorem beS_succ (k v : Nat) : ⟨#[dig v k]⟩ ++ beS k v = beS (k + 1) v := by
  unfold beS
  rw [ByteArray.mk_append_mk]
  simp [be]
theorem pow256 (k : Nat) : 256 ^ k = 2 ^ (8 * k) := by
  rw [Nat.pow_mul]
theorem dig_toNat (v k : Nat) : (dig v k).toNat = v / 256 ^ k % 256 := by
  simp [dig]
theorem dig_int (v : Int) (k : Nat) (h : 0 ≤ v) : ((dig v.toNat k).toNat : Int) = v / 2 ^ (8 * k) % 256 := by
  obtain ⟨n, rfl⟩ := Int.eq_ofNat_of_zero_le h
  rw [dig_toNat, pow256, Int.toNat_natCast, Int.natCast_emod, Int.natCast_ediv, Int.natCast_pow]
  rfl

/-- v without its k lowest bytes. -/
def qu (v : Int) (k : Nat) : Int := ((v.toNat / 256 ^ k : Nat) : Int)
theorem qu_zero (v : Int) (h : 0 ≤ v) : qu v 0 = v := by simp [qu]; omega
theorem qu_succ (v : Int) (k : Nat) : qu v (k + 1) = qu v k / 256 := by
  unfold qu
  rw [Nat.pow_succ, ← Nat.div_div_eq_div_mul, Int.natCast_ediv]
  rfl
theorem qu_bd (v : Int) (k : Nat) (h0 : 0 ≤ v) (h1 : v < 18446744073709551616) : 0 ≤ qu v k ∧ qu v k < 18446744073709551616 := by
  induction k with
  | zero => rw [qu_zero v h0]; omega
  | succ k ih => rw [qu_succ]; omega
theorem qu_dig (v : Int) (k : Nat) : ((dig v.toNat k).toNat : Int) = qu v k % 256 := by
  rw [dig_toNat, Int.natCast_emod]
  rfl

/-- The row of n cells behind k rounds: the k lowest bytes stand at its end. -/
def cellsAt (n k v : Nat) : Array Value := (List.replicate (n - k) (Value.int .u8 0) ++ (be k v).map fun c => Value.int .u8 (c.toNat : Int)).toArray
theorem cellsAt_made (n v : Nat) : madeCells #[Value.int .u8 0] n = cellsAt n 0 v := by
  apply Array.ext_getElem?
  intro i
  by_cases h : i < n
  · simp [madeCells, cellsAt, be, h, Nat.mod_one]
  · simp [madeCells, cellsAt, be, h]
theorem cellsAt_get (n k v : Nat) (h : k < n) : (cellsAt n k v)[n - 1 - k]? = some (.int .u8 0) := by
  unfold cellsAt
  rw [List.getElem?_toArray, List.getElem?_append_left (by simp; omega), List.getElem?_replicate, if_pos (by omega)]
theorem cellsAt_set (n k : Nat) (v : Int) (h0 : 0 ≤ v) (h : k < n) : (cellsAt n k v.toNat).setIfInBounds (n - 1 - k) (.int .u8 (v / 2 ^ (8 * k) % 256)) = cellsAt n (k + 1) v.toNat := by
  rw [← dig_int v k h0]
  unfold cellsAt
  obtain ⟨m, rfl⟩ : ∃ m, n = m + 1 + k := ⟨n - 1 - k, by omega⟩
  have e1 : m + 1 + k - k = m + 1 := by omega
  have e2 : m + 1 + k - (k + 1) = m := by omega
  have e3 : m + 1 + k - 1 - k = m := by omega
  rw [e1, e2, e3, List.replicate_succ', List.setIfInBounds_toArray, List.append_assoc, List.set_append_right _ _ (by simp)]
  simp [be]
theorem cellsAt_all (n v j : Nat) (hj : j < (be n v).length) : (cellsAt n n v)[j]? = some (.int .u8 ((be n v)[j].toNat : Int)) := by
  unfold cellsAt
  simp [hj]
end Go.Proofs.Ytphjhlnjfcfdcaa
namespace Go.Proofs.Ytphjhlnjfcfdcaa
open Go.ChangeShapes Go.WideShapes Go.ChangeAt Go.RowKit

theorem may_any (n : Int) (w : World) : Calls Try.prog 72 #[.int .i64 n] w fun e w' => e = .returned (.bool (okN n)) ∧ w = w' := by
  by_cases h : okN n = true
  · rcases okN_cases h with rfl | rfl | rfl | rfl
    all_goals
      clear h
      go_enter Try.func72, Try.ntmps72
      go_wp2
      go_ret
      exact ⟨rfl, rfl⟩
  · have h' : okN n = false := by simpa using h
    obtain ⟨h1, h2, h4, h8⟩ := okN_not h'
    have e1 : (n == 1) = false := by simpa using h1
    have e2 : (n == 2) = false := by simpa using h2
    have e4 : (n == 4) = false := by simpa using h4
    have e8 : (n == 8) = false := by simpa using h8
    clear h h' h1 h2 h4 h8
    go_enter Try.func72, Try.ntmps72
    go_wp2
    go_ret
    exact ⟨by simp [okN, e1, e2, e4, e8], rfl⟩
theorem may_yes (n : Int) (w : World) (h : okN n = true) : Calls Try.prog 72 #[.int .i64 n] w fun e w' => e = .returned (.bool true) ∧ w = w' := by
  rw [← h]; exact may_any n w
theorem may_no (n : Int) (w : World) (h : okN n = false) : Calls Try.prog 72 #[.int .i64 n] w fun e w' => e = .returned (.bool false) ∧ w = w' := by
  rw [← h]; exact may_any n w

/-- 'string(b)' of a row that holds the bytes of beS. -/
theorem conv_row (w : World) (n v : Nat) : (convert 69 9 (.slice (some ⟨w.heap.size, 0, none⟩) n n)).run Try.prog (w.alloc (.cells (cellsAt n n v) 5)) = .ok (.string (beS n v)) (w.alloc (.cells (cellsAt n n v) 5)) := by
  have h := run_convert_bytes_back (P := Try.prog) (w.alloc (.cells (cellsAt n n v) 5)) 69 9 5 ⟨w.heap.size, 0, none⟩ n (be n v) Try.underlying69 Try.underlying5 Try.underlying9 (fun j hj => by
    have e : (⟨w.heap.size, 0, none⟩ : Addr).add j = ⟨w.heap.size, j, none⟩ := by simp [Addr.add]; exact fun h => h.symm
    rw [e, World.cell?_alloc_at _ _ _ _ rfl]
    exact cellsAt_all n v j hj)
  rw [be_length] at h
  exact h
theorem conv_one (w : World) (c : UInt8) (x : Int) (hx : (c.toNat : Int) = x) : (convert 69 9 (.slice (some ⟨w.heap.size, 0, none⟩) 1 1)).run Try.prog (w.alloc (.cells #[.int .u8 x] 5)) = .ok (.string ⟨#[c]⟩) (w.alloc (.cells #[.int .u8 x] 5)) := by
  subst hx
  exact run_convert_bytes_back (P := Try.prog) (w.alloc (.cells #[.int .u8 (c.toNat : Int)] 5)) 69 9 5 ⟨w.heap.size, 0, none⟩ 1 [c] Try.underlying69 Try.underlying5 Try.underlying9 (fun j hj => by
    have e : (⟨w.heap.size, 0, none⟩ : Addr).add j = ⟨w.heap.size, j, none⟩ := by simp [Addr.add]; exact fun h => h.symm
    rw [e, World.cell?_alloc_at _ _ _ _ rfl]
    simp at hj
    subst hj
    rfl)

/-! ### pack.Put and the document's Put -/
theorem put_no (n v : Int) (w : World) (h : okN n = false) : Calls Try.prog 38 #[.int .i64 n, .int .u64 v] w fun e w' => e = .returned (.string ⟨#[]⟩) ∧ Fresh w w' := by
  have H := Lib.hid h; clear h
  go_enter Try.func38, Try.ntmps38
  go_wp2_with (go_at_call 72; refine (may_no _ _ H.out).mono ?_; rintro e w' ⟨rfl, rfl⟩)
  go_ret
  exact ⟨rfl, Fresh.refl _⟩

set_option maxRecDepth 100000 in
set_option maxHeartbeats 400000 in
theorem put_nat (n : Nat) (v : Int) (w : World) (h : okN n = true) (h0 : 0 ≤ v) (_h1 : v < 18446744073709551616) (_hn : 1 ≤ n) (hn8 : n ≤ 8) :
    Calls Try.prog 38 #[.int .i64 n, .int .u64 v] w fun e w' => e = .returned (.string (beS n v.toNat)) ∧ Fresh w w' := by
  have H := Lib.hid h; clear h
  have hmk := fun w => run_make_row' (P := Try.prog) 69 5 (.int .u8 0) 1 Try.underlying69 info5 rfl .i64 .i64 n (by omega) (by omega) w
  go_enter Try.func38, Try.ntmps38
  go_wp2_with (go_at_call 72; refine (may_yes _ _ H.out).mono ?_; rintro e w' ⟨rfl, rfl⟩)
  go_loopw [13] (fun i wr => ∃ k : Nat, k ≤ n ∧ i = .int .i64 k ∧ wr = w.alloc (.cells (cellsAt n k v.toNat) 5)) (fun i _ => n - (intOf i).toNat)
  case atStart => exact ⟨0, Nat.zero_le _, rfl, by rw [cellsAt_made n v.toNat]⟩
  case round =>
    obtain ⟨k, hk, rfl, rfl⟩ := hrel
    by_cases hlt : k < n
    · have hc := cellsAt_get n k v.toNat hlt
      go_wp2
      exact ⟨⟨k + 1, hlt, by go_num, by rw [cellsAt_set n k v h0 hlt]⟩, by simp [intOf]; omega⟩
    · obtain rfl : k = n := by omega
      have hcv := conv_row w k v.toNat
      go_wp2
      go_ret
      exact ⟨rfl, (Fresh.refl _).alloc _⟩
theorem put_yes (n v : Int) (w : World) (h : okN n = true) (h0 : 0 ≤ v) (h1 : v < 18446744073709551616) :
    Calls Try.prog 38 #[.int .i64 n, .int .u64 v] w fun e w' => e = .returned (.string (beS n.toNat v.toNat)) ∧ Fresh w w' := by
  obtain ⟨m, rfl⟩ : ∃ m : Nat, n = m := ⟨n.toNat, by rcases okN_cases h with rfl | rfl | rfl | rfl <;> rfl⟩
  have := okN_cases h
  exact put_nat m v w h h0 h1 (by omega) (by omega)

theorem rput_no (n v : Int) (w : World) (h : okN n = false) : Calls Try.prog 42 #[.int .i64 n, .int .u64 v] w fun e w' => e = .returned (.string ⟨#[]⟩) ∧ Fresh w w' := by
  obtain ⟨h1, h2, h4, h8⟩ := okN_not h
  have e1 : (n != 1) = true := by simpa using h1
  have e2 : (n != 2) = true := by simpa using h2
  have e4 : (n != 4) = true := by simpa using h4
  have e8 : (n != 8) = true := by simpa using h8
  clear h h1 h2 h4 h8
  go_enter Try.func42, Try.ntmps42
  go_wp2
  go_ret
  exact ⟨rfl, Fresh.refl _⟩
set_option maxRecDepth 100000 in
set_option maxHeartbeats 400000 in
theorem rput_1 (v : Int) (w : World) (h0 : 0 ≤ v) (h1 : v < 18446744073709551616) :
    Calls Try.prog 42 #[.int .i64 1, .int .u64 v] w fun e w' => e = .returned (.string (beS 1 v.toNat)) ∧ Fresh w w' := by
  go_enter Try.func42, Try.ntmps42
  go_wp2
  go_loopw [1, 5, 6] (fun x s i wr => ∃ k : Nat, k ≤ 1 ∧ i = .int .i64 k ∧ x = .int .u64 (qu v k) ∧ s = .string (beS k v.toNat) ∧ Fresh w wr) (fun _ _ i _ => 1 - (intOf i).toNat)
  case atStart => exact ⟨0, Nat.zero_le _, rfl, by rw [qu_zero v h0], rfl, Fresh.refl _⟩
  case round =>
    obtain ⟨k, hk, rfl, rfl, rfl, hg⟩ := hrel
    have hq := qu_bd v k h0 h1
    have hadd : ∀ W : World, (Op.stringOp .add ⟨#[dig v.toNat k]⟩ (beS k v.toNat)).run Try.prog W = .ok (.string (beS (k + 1) v.toNat)) W := fun W => by
      rw [run_string_add_sum W _ _ (by rw [beS_size]; show 1 + k ≤ _; omega), beS_succ]
    have hcv := conv_one wr (dig v.toNat k) (qu v k % 256) (qu_dig v k)
    by_cases hlt : k < 1
    · go_wp2
      exact ⟨⟨k + 1, by omega, by go_num, by rw [qu_succ], rfl, hg.alloc _⟩, by simp [intOf]; omega⟩
    · obtain rfl : k = 1 := by omega
      go_wp2
      go_ret
      exact ⟨rfl, hg⟩
set_option maxRecDepth 100000 in
set_option maxHeartbeats 400000 in
theorem rput_2 (v : Int) (w : World) (h0 : 0 ≤ v) (h1 : v < 18446744073709551616) :
    Calls Try.prog 42 #[.int .i64 2, .int .u64 v] w fun e w' => e = .returned (.string (beS 2 v.toNat)) ∧ Fresh w w' := by
  go_enter Try.func42, Try.ntmps42
  go_wp2
  go_loopw [1, 5, 6] (fun x s i wr => ∃ k : Nat, k ≤ 2 ∧ i = .int .i64 k ∧ x = .int .u64 (qu v k) ∧ s = .string (beS k v.toNat) ∧ Fresh w wr) (fun _ _ i _ => 2 - (intOf i).toNat)
  case atStart => exact ⟨0, Nat.zero_le _, rfl, by rw [qu_zero v h0], rfl, Fresh.refl _⟩
  case round =>
    obtain ⟨k, hk, rfl, rfl, rfl, hg⟩ := hrel
    have hq := qu_bd v k h0 h1
    have hadd : ∀ W : World, (Op.stringOp .add ⟨#[dig v.toNat k]⟩ (beS k v.toNat)).run Try.prog W = .ok (.string (beS (k + 1) v.toNat)) W := fun W => by
      rw [run_string_add_sum W _ _ (by rw [beS_size]; show 1 + k ≤ _; omega), beS_succ]
    have hcv := conv_one wr (dig v.toNat k) (qu v k % 256) (qu_dig v k)
    by_cases hlt : k < 2
    · go_wp2
      exact ⟨⟨k + 1, by omega, by go_num, by rw [qu_succ], rfl, hg.alloc _⟩, by simp [intOf]; omega⟩
    · obtain rfl : k = 2 := by omega
      go_wp2
      go_ret
      exact ⟨rfl, hg⟩
set_option maxRecDepth 100000 in
set_option maxHeartbeats 400000 in
theorem rput_4 (v : Int) (w : World) (h0 : 0 ≤ v) (h1 : v < 18446744073709551616) :
    Calls Try.prog 42 #[.int .i64 4, .int .u64 v] w fun e w' => e = .returned (.string (beS 4 v.toNat)) ∧ Fresh w w' := by
  go_enter Try.func42, Try.ntmps42
  go_wp2
  go_loopw [1, 5, 6] (fun x s i wr => ∃ k : Nat, k ≤ 4 ∧ i = .int .i64 k ∧ x = .int .u64 (qu v k) ∧ s = .string (beS k v.toNat) ∧ Fresh w wr) (fun _ _ i _ => 4 - (intOf i).toNat)
  case atStart => exact ⟨0, Nat.zero_le _, rfl, by rw [qu_zero v h0], rfl, Fresh.refl _⟩
  case round =>
    obtain ⟨k, hk, rfl, rfl, rfl, hg⟩ := hrel
    have hq := qu_bd v k h0 h1
    have hadd : ∀ W : World, (Op.stringOp .add ⟨#[dig v.toNat k]⟩ (beS k v.toNat)).run Try.prog W = .ok (.string (beS (k + 1) v.toNat)) W := fun W => by
      rw [run_string_add_sum W _ _ (by rw [beS_size]; show 1 + k ≤ _; omega), beS_succ]
    have hcv := conv_one wr (dig v.toNat k) (qu v k % 256) (qu_dig v k)
    by_cases hlt : k < 4
    · go_wp2
      exact ⟨⟨k + 1, by omega, by go_num, by rw [qu_succ], rfl, hg.alloc _⟩, by simp [intOf]; omega⟩
    · obtain rfl : k = 4 := by omega
      go_wp2
      go_ret
      exact ⟨rfl, hg⟩
set_option maxRecDepth 100000 in
set_option maxHeartbeats 400000 in
theorem rput_8 (v : Int) (w : World) (h0 : 0 ≤ v) (h1 : v < 18446744073709551616) :
    Calls Try.prog 42 #[.int .i64 8, .int .u64 v] w fun e w' => e = .returned (.string (beS 8 v.toNat)) ∧ Fresh w w' := by
  go_enter Try.func42, Try.ntmps42
  go_wp2
  go_loopw [1, 5, 6] (fun x s i wr => ∃ k : Nat, k ≤ 8 ∧ i = .int .i64 k ∧ x = .int .u64 (qu v k) ∧ s = .string (beS k v.toNat) ∧ Fresh w wr) (fun _ _ i _ => 8 - (intOf i).toNat)
  case atStart => exact ⟨0, Nat.zero_le _, rfl, by rw [qu_zero v h0], rfl, Fresh.refl _⟩
  case round =>
    obtain ⟨k, hk, rfl, rfl, rfl, hg⟩ := hrel
    have hq := qu_bd v k h0 h1
    have hadd : ∀ W : World, (Op.stringOp .add ⟨#[dig v.toNat k]⟩ (beS k v.toNat)).run Try.prog W = .ok (.string (beS (k + 1) v.toNat)) W := fun W => by
      rw [run_string_add_sum W _ _ (by rw [beS_size]; show 1 + k ≤ _; omega), beS_succ]
    have hcv := conv_one wr (dig v.toNat k) (qu v k % 256) (qu_dig v k)
    by_cases hlt : k < 8
    · go_wp2
      exact ⟨⟨k + 1, by omega, by go_num, by rw [qu_succ], rfl, hg.alloc _⟩, by simp [intOf]; omega⟩
    · obtain rfl : k = 8 := by omega
      go_wp2
      go_ret
      exact ⟨rfl, hg⟩
theorem rput_yes (n v : Int) (w : World) (h : okN n = true) (h0 : 0 ≤ v) (h1 : v < 18446744073709551616) :
    Calls Try.prog 42 #[.int .i64 n, .int .u64 v] w fun e w' => e = .returned (.string (beS n.toNat v.toNat)) ∧ Fresh w w' := by
  rcases okN_cases h with rfl | rfl | rfl | rfl
  · exact rput_1 v w h0 h1
  · exact rput_2 v w h0 h1
  · exact rput_4 v w h0 h1
  · exact rput_8 v w h0 h1
theorem wrap_u64 (v : Int) : 0 ≤ IntKind.u64.wrap v ∧ IntKind.u64.wrap v < 18446744073709551616 := by
  simp [IntKind.wrap, IntKind.signed, IntKind.bits]; omega
theorem wrap_back (v : Int) (h0 : 0 ≤ v) (h1 : v < 18446744073709551616) : IntKind.u64.wrap (wrap64 v) = v := by
  simp [IntKind.wrap, IntKind.signed, IntKind.bits, wrap64]; omega
def flagS (b : Bool) : ByteArray := beS 1 b.toNat
theorem beS_flag : flagS false = ⟨#[0]⟩ ∧ flagS true = ⟨#[1]⟩ := ⟨by decide +kernel, by decide +kernel⟩

/-! ### pack.Int, Flag, Text, and the document's -/
theorem text_long (s : ByteArray) (w : World) (hs : s.size ≤ maxLen) (h : 4096 < s.size) : Calls Try.prog 61 #[.string s] w fun e w' => e = .returned (.tuple #[.string ⟨#[]⟩, .int .i64 2]) ∧ Fresh w w' := by
  unfold maxLen at hs
  go_enter Try.func61, Try.ntmps61
  go_wp2
  go_ret2
  exact ⟨rfl, Fresh.refl _⟩
theorem text_ok (s : ByteArray) (w : World) (h : s.size ≤ 4096) : Calls Try.prog 61 #[.string s] w fun e w' => e = .returned (.tuple #[.string (beS 2 s.size ++ s), .int .i64 0]) ∧ Fresh w w' := by
  have hadd : ∀ W : World, (Op.stringOp .add (beS 2 s.size) s).run Try.prog W = .ok (.string (beS 2 s.size ++ s)) W := fun W => by
    rw [run_string_add_sum W _ _ (by rw [beS_size]; omega)]
  go_enter Try.func61, Try.ntmps61
  go_wp2_with fail
  refine (put_yes _ _ _ (by decide) (by omega) (by omega)).mono ?_
  rintro e w' ⟨rfl, hg⟩
  go_wp2
  go_ret2
  exact ⟨rfl, hg⟩
theorem rtext_ok (s : ByteArray) (w : World) (h : s.size ≤ 4096) : Calls Try.prog 43 #[.string s] w fun e w' => e = .returned (.string (beS 2 s.size ++ s)) ∧ Fresh w w' := by
  have hadd : ∀ W : World, (Op.stringOp .add (beS 2 s.size) s).run Try.prog W = .ok (.string (beS 2 s.size ++ s)) W := fun W => by
    rw [run_string_add_sum W _ _ (by rw [beS_size]; omega)]
  go_enter Try.func43, Try.ntmps43
  go_wp2_with fail
  refine (rput_yes _ _ _ (by decide) (by omega) (by omega)).mono ?_
  rintro e w' ⟨rfl, hg⟩
  go_wp2
  go_ret
  exact ⟨rfl, hg⟩

/-! ### the document's example -/
theorem awake_put : beS 2 258 = ⟨#[1, 2]⟩ := by decide +kernel
theorem awake_text : beS 2 1 ++ ⟨#[97]⟩ = ⟨#[0, 1, 97]⟩ := by decide +kernel
theorem text_a (w : World) : Calls Try.prog 61 #[.string ⟨#[97]⟩] w fun e w' => e = .returned (.tuple #[.string ⟨#[0, 1, 97]⟩, .int .i64 0]) ∧ Fresh w w' := by
  have h := text_ok ⟨#[97]⟩ w (by decide)
  rw [show (ByteArray.mk #[97]).size = 1 from rfl, awake_text] at h
  exact h
theorem put_258 (w : World) : Calls Try.prog 38 #[.int .i64 2, .int .u64 258] w fun e w' => e = .returned (.string ⟨#[1, 2]⟩) ∧ Fresh w w' := by
  have h := put_yes 2 258 w (by decide) (by omega) (by omega)
  rw [show (2 : Int).toNat = 2 from rfl, show (258 : Int).toNat = 258 from rfl, awake_put] at h
  exact h
theorem awake_true (w : World) : Calls Try.prog 33 #[] w fun e w' => e = .returned (.bool true) ∧ Fresh w w' := by
  go_enter Try.func33, Try.ntmps33
  go_wp2_with fail
  refine (text_a _).mono ?_
  rintro e w1 ⟨rfl, hg1⟩
  go_wp2_with fail
  refine (put_258 _).mono ?_
  rintro e w2 ⟨rfl, hg2⟩
  go_wp2
  go_ret
  exact ⟨rfl, hg1.trans hg2⟩
end Go.Proofs.Ytphjhlnjfcfdcaa
