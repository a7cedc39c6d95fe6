/-
  Rows of bytes in memory; what a text is when it is quoted. No call.
  Labels and names, as functions of their bytes. No call.
  Rows of texts in memory (beside utf's Base: of a seat that has both).
  Pods: what is wrong with one, its defaults, whether two are alike. No call.
  Pods in memory.
  The document's texts: are two rows of texts the same?
  The document's Default.
  The document's Default, walked.
-/
import Derived.Test.YtfhhmajkacjbgaaDoorRows
import Derived.WalkKit
import Derived.ProofKit
import Derived.OpenShut
import Derived.ShutString
import Derived.WalkSpells
import Derived.WalkLawsBesides
import Derived.LoopTactic
import Derived.Lib.Hide
import Derived.Below
import Derived.Deep.OwnRows
import Derived.Deep.AppendLies
import Derived.Laws.IdiomStrings
import Derived.Laws.MakeOwn
import Derived.Deep.QuietTactic
import Derived.BigQuiet
import Derived.Deep.LoopGhost
import Derived.Deep.Draws
import Derived.Lib.Bytealg
import Derived.Lib.UnsafeStr
import Derived.Lib.BufferWrite
import Derived.Lib.Walk
import Derived.Laws.BitsAllLaws
import Derived.Lib.ValidLaws
import Derived.Deep.DrawnRows
import Derived.RangeFuncBox
import Derived.StillTailTactics
import Derived.Deep.Cut
namespace Go.Proofs.YtfhhmajkacjbgaaDoor
open Go.ChangeShapes Go.WideShapes Go.ChangeAt Go.RowKit

/-- Of what was there nothing has turned; there may be new blocks. -/
def Fresh (w w' : World) : Prop := Below w.heap.size w w'
theorem Fresh.refl (w : World) : Fresh w w := Below.refl _ _
theorem Fresh.trans {a b c : World} (h : Fresh a b) (k : Fresh b c) : Fresh a c := Below.trans h (Below.mono k h.size)
theorem Fresh.alloc {a b : World} (h : Fresh a b) (o : Obj) : Fresh a (b.alloc o) := Below.alloc h h.size o
theorem Fresh.setCell {a b : World} (h : Fresh a b) {p : Addr} (hp : a.heap.size ≤ p.block) (u : Value) : Fresh a (b.setCell p u) := Below.setCell h hp u
theorem Fresh.drew {a b : World} (h : Fresh a b) : Fresh a b.drew := Below.drew h
theorem Fresh.below {a b c : World} {B : Nat} (h : Fresh a b) (k : Below B b c) (hB : a.heap.size ≤ B) : Fresh a c := Below.trans h (Below.mono k hB)
theorem Fresh.grown {a b c : World} (h : Fresh a b) {row : Option Nat} (hg : b.grownBy c row) (hr : ∀ g, row = some g → a.heap.size ≤ g) : Fresh a c := Below.grown h hg h.size hr
theorem lt_of_at {w : World} {k : Nat} {o : Obj} (hk : w.heap[k]? = some o) : k < w.heap.size := (Array.getElem?_eq_some_iff.1 hk).1
theorem at_alloc {w : World} {k : Nat} {o p : Obj} (hk : w.heap[k]? = some o) : (w.alloc p).heap[k]? = some o := by
  rw [Below.heap_alloc _ _ _ (lt_of_at hk)]; exact hk
theorem at_new (w : World) (o : Obj) : (w.alloc o).heap[w.heap.size]? = some o := by
  show (w.heap.push o)[w.heap.size]? = _
  simp
theorem cell_of_at {w : World} {b : Nat} {cs : Array Value} {t : TypeId} {z : Nat × Nat} (h : w.heap[b]? = some (.cells cs t z)) {i : Nat} {v : Value} (hi : cs[i]? = some v) : w.cell? ⟨b, i, none⟩ = some v := by
  simp [World.cell?, h, hi]
theorem addr_add0 (b n : Nat) : (⟨b, 0, none⟩ : Addr).add n = ⟨b, n, none⟩ := by
  unfold Addr.add
  split <;> simp_all
theorem grown_set (w : World) (g o : Nat) (u : Value) : w.grownBy (w.setCell ⟨g, o, none⟩ u) (some g) :=
  ⟨rfl, rfl, rfl, by simp [World.setCell], fun k _ hk => Below.heap_setCell _ _ _ _ (fun e => hk (by rw [e]))⟩
theorem info5 : (Tryd.prog.info? 5).map (fun i => (i.zero, i.size, i.bytes)) = some (some (.int .u8 0), 1, 1) := by kernel_rfl
theorem ret_int {k : IntKind} {a b : Int} (h : a = b) : Ending.returned (.int k a) = .returned (.int k b) := by rw [h]
theorem ret_bool {a b : Bool} (h : a = b) : Ending.returned (.bool a) = .returned (.bool b) := by rw [h]
theorem ret_string {a b : ByteArray} (h : a = b) : Ending.returned (.string a) = .returned (.string b) := by rw [h]

/-! ### rows of bytes -/
/-- Bytes as they lie in a row's cells. -/
def vals (l : List UInt8) : List Value := l.map fun c => .int .u8 (c.toNat : Int)
theorem vals_length (l : List UInt8) : (vals l).length = l.length := by simp [vals]
theorem vals_append (l m : List UInt8) : vals (l ++ m) = vals l ++ vals m := by simp [vals]
theorem vals_one (l : List UInt8) : ∀ u ∈ vals l, u.oneCell' = true := fun u hu => by
  unfold vals at hu
  obtain ⟨c, _, rfl⟩ := List.mem_map.1 hu
  rfl
theorem vals_get (l : List UInt8) (j : Nat) (u : Value) (h : (vals l)[j]? = some u) : ∃ hj : j < l.length, u = .int .u8 (l[j].toNat : Int) := by
  unfold vals at h
  rw [List.getElem?_map] at h
  by_cases hj : j < l.length
  · rw [List.getElem?_eq_getElem hj] at h
    exact ⟨hj, (Option.some.inj h).symm⟩
  · rw [List.getElem?_eq_none (by omega)] at h
    cases h
/-- A row of bytes that the call owns, from block B on. -/
def Buf (w : World) (B : Nat) (v : Value) (l : List UInt8) : Prop := w.ownsRow B 5 1 v l.length (vals l)
theorem Buf.lt {w : World} {B : Nat} {v : Value} {l : List UInt8} (h : Buf w B v l) : ∀ g, v.ownBlock = some g → B ≤ g ∧ g < w.heap.size := World.ownsRow.lt h
theorem Buf.alloc {w : World} {B : Nat} {v : Value} {l : List UInt8} (h : Buf w B v l) (o : Obj) : Buf (w.alloc o) B v l := World.ownsRow.alloc h o
theorem Buf.drew {w : World} {B : Nat} {v : Value} {l : List UInt8} (h : Buf w B v l) : Buf w.drew B v l := h
theorem Buf.kept {w w' : World} {B : Nat} {v : Value} {l : List UInt8} {row : Option Nat} (h : Buf w B v l) (hg : w.grownBy w' row) (hne : v.ownBlock = none ∨ v.ownBlock ≠ row) : Buf w' B v l := World.ownsRow.kept h hg hne
theorem Buf.fresh {w w' : World} {B : Nat} {v : Value} {l : List UInt8} (h : Buf w B v l) (hf : Fresh w w') : Buf w' B v l := by
  refine World.ownsRow.kept (row := none) h ⟨hf.os, hf.tape, hf.output, hf.size, fun k hk _ => hf.block k hk⟩ ?_
  rcases h' : v.ownBlock with _ | g
  · exact .inl rfl
  · exact .inr (by simp)
/-- What an append leaves behind. -/
theorem Buf.more {w' : World} {B : Nat} {v : Value} {l m : List UInt8} {k : Nat} (h : w'.ownsRow B 5 1 v (l.length + k) (vals l ++ vals m)) (hk : m.length = k) : Buf w' B v (l ++ m) := by
  unfold Buf
  rw [vals_append, List.length_append, hk]
  exact h
/-- 'string(b)' of such a row. -/
theorem Buf.text {w : World} {B : Nat} {g : Nat} {c n : Nat} {l : List UInt8} (h : Buf w B (.slice (some ⟨g, 0, none⟩) n c) l) : n = l.length ∧ (convert 101 9 (.slice (some ⟨g, 0, none⟩) n c)).run Tryd.prog w = .ok (.string ⟨l.toArray⟩) w := by
  have hn : n = l.length := by
    obtain ⟨_, ⟨h1, _⟩ | ⟨g', cap, cur, h1, _⟩⟩ := h
    · cases h1
    · injection h1
  subst hn
  refine ⟨rfl, run_convert_bytes_back (P := Tryd.prog) w 101 9 5 ⟨g, 0, none⟩ c l Tryd.underlying101 Tryd.underlying5 Tryd.underlying9 (fun j hj => ?_)⟩
  exact World.ownsRow.cells h rfl j _ (by unfold vals; rw [List.getElem?_map, List.getElem?_eq_getElem hj]; rfl)
theorem text_nil (w : World) : (convert 101 9 (.slice none 0 0)).run Tryd.prog w = .ok (.string ⟨#[]⟩) w := by
  rw [run_convert_bytes_string (P := Tryd.prog) w 101 9 5 none 0 0 Tryd.underlying101 Tryd.underlying5 Tryd.underlying9]
  rfl

/-! ### what is quoted -/
def hexB (n : Nat) : UInt8 := UInt8.ofNat (if n < 10 then 48 + n else 87 + n)
/-- A byte, between quotes. -/
def qB (c : UInt8) : List UInt8 :=
  if c = 34 ∨ c = 92 then [92, c] else if c = 10 then [92, 110] else if c = 13 then [92, 114] else if c = 9 then [92, 116] else if c = 8 then [92, 98] else if c = 12 then [92, 102]
  else if c.toNat < 32 then [92, 117, 48, 48, hexB (c.toNat / 16), hexB (c.toNat % 16)] else [c]
def qL (l : List UInt8) : List UInt8 := l.flatMap qB
def quoted (l : List UInt8) : List UInt8 := 34 :: (qL l ++ [34])
theorem qL_snoc (l : List UInt8) (c : UInt8) : qL (l ++ [c]) = qL l ++ qB c := by simp [qL]
theorem qB_len (c : UInt8) : (qB c).length ≤ 6 := by
  unfold qB
  repeat' split
  all_goals simp
theorem qL_len (l : List UInt8) : (qL l).length ≤ 6 * l.length := by
  induction l with
  | nil => simp [qL]
  | cons c l ih =>
    have := qB_len c
    have e : qL (c :: l) = qB c ++ qL l := by simp [qL]
    rw [e, List.length_append, List.length_cons]
    omega
theorem take_snoc (s : ByteArray) (k : Nat) (h : k < s.size) : s.data.toList.take (k + 1) = s.data.toList.take k ++ [s[k]] := by
  rw [List.take_succ_eq_append_getElem (by simpa using h)]; rfl
theorem c_of {c : UInt8} {n : Nat} (h : c.toNat = n) : c = UInt8.ofNat n := by
  rw [← h]; simp
end Go.Proofs.YtfhhmajkacjbgaaDoor
namespace Go.Proofs.YtfhhmajkacjbgaaDoor

/-! ### what points part -/
def lnsA : List UInt8 → List UInt8 → List (List UInt8)
  | cur, [] => [cur]
  | cur, c :: r => if c = 46 then cur :: lnsA [] r else lnsA (cur ++ [c]) r
theorem lnsA_none : ∀ (a cur : List UInt8), (∀ c ∈ a, c ≠ 46) → lnsA cur a = [cur ++ a]
  | [], cur, _ => by simp [lnsA]
  | c :: r, cur, h => by
    rw [lnsA, if_neg (h c (by simp)), lnsA_none r _ (fun d hd => h d (by simp [hd]))]
    simp
theorem lnsA_cut : ∀ (a b cur : List UInt8), (∀ c ∈ a, c ≠ 46) → lnsA cur (a ++ 46 :: b) = (cur ++ a) :: lnsA [] b
  | [], b, cur, _ => by simp [lnsA]
  | c :: r, b, cur, h => by
    rw [List.cons_append, lnsA, if_neg (h c (by simp)), lnsA_cut r b _ (fun d hd => h d (by simp [hd]))]
    simp
theorem lnsA_ne (cur l : List UInt8) : lnsA cur l ≠ [] := by
  induction l generalizing cur with
  | nil => simp [lnsA]
  | cons c r ih =>
    rw [lnsA]
    split
    · simp
    · exact ih _
theorem lnsA_len (cur l : List UInt8) : (lnsA cur l).length ≤ l.length + 1 := by
  induction l generalizing cur with
  | nil => simp [lnsA]
  | cons c r ih =>
    rw [lnsA]
    split
    · have := ih []
      simp; omega
    · have := ih (cur ++ [c])
      simp; omega
theorem indexByte_none : ∀ (l : List UInt8) (c : UInt8), Go.Lib.indexByte l c = -1 → ∀ d ∈ l, d ≠ c
  | [], _, _, d, hd => by simp at hd
  | b :: l, c, h, d, hd => by
    have ge := Go.Lib.indexByte_ge l c
    unfold Go.Lib.indexByte at h
    by_cases hb : (b == c) = true
    · rw [if_pos hb] at h; omega
    · rw [if_neg hb] at h
      by_cases hx : (Go.Lib.indexByte l c == -1) = true
      · rcases List.mem_cons.1 hd with rfl | hd
        · simpa using hb
        · exact indexByte_none l c (by simpa using hx) d hd
      · rw [if_neg hx] at h
        have : Go.Lib.indexByte l c = -2 := by omega
        omega
theorem indexByte_some : ∀ (l : List UInt8) (c : UInt8) (k : Nat), Go.Lib.indexByte l c = k → k < l.length ∧ l = l.take k ++ c :: l.drop (k + 1) ∧ ∀ d ∈ l.take k, d ≠ c
  | [], _, k, h => by simp [Go.Lib.indexByte] at h
  | b :: l, c, k, h => by
    unfold Go.Lib.indexByte at h
    by_cases hb : (b == c) = true
    · rw [if_pos hb] at h
      obtain rfl : k = 0 := by omega
      have : b = c := by simpa using hb
      subst this
      simp
    · rw [if_neg hb] at h
      by_cases hx : (Go.Lib.indexByte l c == -1) = true
      · rw [if_pos hx] at h; omega
      · rw [if_neg hx] at h
        have ge := Go.Lib.indexByte_ge l c
        have hx' : Go.Lib.indexByte l c ≠ -1 := by simpa using hx
        obtain ⟨j, rfl⟩ : ∃ j, k = j + 1 := ⟨k - 1, by omega⟩
        obtain ⟨h1, h2, h3⟩ := indexByte_some l c j (by omega)
        refine ⟨by simp; omega, ?_, ?_⟩
        · simp only [List.take_succ_cons, List.drop_succ_cons, List.cons_append]
          rw [← h2]
        · intro d hd
          rw [List.take_succ_cons] at hd
          rcases List.mem_cons.1 hd with rfl | hd
          · simpa using hb
          · exact h3 d hd
theorem indexByte_cases (l : List UInt8) (c : UInt8) : Go.Lib.indexByte l c = -1 ∨ ∃ k : Nat, Go.Lib.indexByte l c = k := by
  have := Go.Lib.indexByte_ge l c
  by_cases h : Go.Lib.indexByte l c = -1
  · exact .inl h
  · exact .inr ⟨(Go.Lib.indexByte l c).toNat, by omega⟩


theorem lnsA_mem : ∀ (l c x : List UInt8), x ∈ lnsA c l → x.length ≤ c.length + l.length
  | [], c, x, h => by
    simp [lnsA] at h
    simp [h]
  | b :: r, c, x, h => by
    rw [lnsA] at h
    split at h
    · rcases List.mem_cons.1 h with rfl | h
      · omega
      · have := lnsA_mem r [] x h
        simp at this ⊢; omega
    · have := lnsA_mem r _ x h
      simp at this ⊢; omega
/-! ### which bytes may be -/
def smallB (c : UInt8) : Bool := decide (97 ≤ c.toNat) && decide (c.toNat ≤ 122)
def capB (c : UInt8) : Bool := decide (65 ≤ c.toNat) && decide (c.toNat ≤ 90)
def digB (c : UInt8) : Bool := decide (48 ≤ c.toNat) && decide (c.toNat ≤ 57)
def inL (c : UInt8) : Bool := smallB c || (digB c || c == 45)
def inV (c : UInt8) : Bool := smallB c || (capB c || (digB c || c == 95))
/-- A label. -/
def labB (l : List UInt8) : Bool := (decide (1 ≤ l.length) && decide (l.length ≤ 63)) && (l.head? != some 45 && (l.getLast? != some 45 && l.all inL))
/-- A name. -/
def nameB (l : List UInt8) : Bool := (decide (1 ≤ l.length) && decide (l.length ≤ 253)) && (lnsA [] l).all labB
theorem inL_point : inL 46 = false := by decide
theorem labB_point {l : List UInt8} (h : labB l = true) : ∀ c ∈ l, c ≠ 46 := fun c hc e => by
  unfold labB at h
  simp only [Bool.and_eq_true] at h
  have := List.all_eq_true.1 h.2.2.2 c hc
  rw [e, inL_point] at this
  cases this
theorem labB_len {l : List UInt8} (h : labB l = true) : 1 ≤ l.length ∧ l.length ≤ 63 := by
  unfold labB at h
  simp only [Bool.and_eq_true, decide_eq_true_eq] at h
  exact h.1
/-- Parts, a point between each two. -/
def joinF : List (List UInt8) → List UInt8
  | [] => []
  | x :: r => r.foldl (fun s p => s ++ (46 :: p)) x
theorem lnsA_app : ∀ (a b cur : List UInt8), lnsA cur (a ++ 46 :: b) = lnsA cur a ++ lnsA [] b
  | [], b, cur => by simp [lnsA]
  | c :: r, b, cur => by
    rw [List.cons_append, lnsA, lnsA]
    by_cases h : c = 46
    · rw [if_pos h, if_pos h, lnsA_app r b []]; rfl
    · rw [if_neg h, if_neg h, lnsA_app r b _]
theorem join_fold : ∀ (r : List (List UInt8)) (s t : List UInt8), r.foldl (fun s p => s ++ (46 :: p)) (s ++ t) = s ++ r.foldl (fun s p => s ++ (46 :: p)) t
  | [], s, t => rfl
  | x :: r, s, t => by
    simp only [List.foldl_cons]
    rw [List.append_assoc, join_fold r s]
theorem join_lns : ∀ (l cur : List UInt8), joinF (lnsA cur l) = cur ++ l
  | [], cur => by simp [lnsA, joinF]
  | c :: r, cur => by
    rw [lnsA]
    by_cases h : c = 46
    · subst h
      rw [if_pos rfl]
      have ih := join_lns r []
      rcases hx : lnsA [] r with _ | ⟨x, t⟩
      · exact absurd hx (lnsA_ne _ _)
      · rw [hx] at ih
        show (t.foldl (fun s p => s ++ (46 :: p)) (cur ++ (46 :: x))) = _
        rw [show cur ++ 46 :: x = (cur ++ [46]) ++ x by simp, join_fold]
        have ih' : t.foldl (fun s p => s ++ (46 :: p)) x = r := by simpa [joinF] using ih
        rw [ih']; simp
    · rw [if_neg h, join_lns r]
      simp
/-- What the law's own loop makes of the parts that have come. -/
theorem joinF_snoc (l : List (List UInt8)) (x : List UInt8) : joinF (l ++ [x]) = if l = [] then x else joinF l ++ (46 :: x) := by
  cases l with
  | nil => simp [joinF]
  | cons y r => simp [joinF]
/-- One part: a label. -/
theorem one_label {l : List UInt8} (h : nameB l = true) : (decide ((lnsA [] l).length = 1)) = labB l := by
  unfold nameB at h
  simp only [Bool.and_eq_true] at h
  have hall := h.2
  cases hl : labB l with
  | true =>
    rw [lnsA_none l [] (labB_point hl)]
    simp
  | false =>
    rw [decide_eq_false_iff_not]
    intro h1
    have hj := join_lns l []
    rcases hx : lnsA [] l with _ | ⟨x, t⟩
    · exact absurd hx (lnsA_ne _ _)
    · rw [hx] at h1 hall hj
      obtain rfl : t = [] := by
        simpa using h1
      have : x = l := by simpa [joinF] using hj
      subst this
      simp [hl] at hall
/-- Two names, a point between. -/
theorem both_names (a b : List UInt8) (h : a.length + 1 + b.length ≤ 253) : nameB (a ++ 46 :: b) = (nameB a && nameB b) := by
  have key : ∀ l : List UInt8, l.length ≤ 253 → nameB l = (lnsA [] l).all labB := fun l hl => by
    unfold nameB
    cases l with
    | nil => simp [lnsA, labB]
    | cons c r =>
      rw [decide_eq_true (by simp), decide_eq_true hl]
      simp
  rw [key _ (by simp; omega), key a (by omega), key b (by omega), lnsA_app, List.all_append]
end Go.Proofs.YtfhhmajkacjbgaaDoor
namespace Go.Proofs.YtfhhmajkacjbgaaDoor
open Go.ChangeShapes Go.WideShapes Go.ChangeAt Go.RowKit

def tx (l : List UInt8) : ByteArray := ⟨l.toArray⟩
theorem tx_toList (l : List UInt8) : (tx l).data.toList = l := by simp [tx]
theorem tx_size (l : List UInt8) : (tx l).size = l.length := by simp [tx, ByteArray.size]
theorem tx_of (s : ByteArray) : tx s.data.toList = s := by
  cases s; rfl
theorem tx_extract (s : ByteArray) (a b : Nat) : s.extract a b = tx ((s.data.toList.drop a).take (b - a)) := by
  conv => lhs; rw [← tx_of s]
  rw [Lib.extract_eq]; rfl
/-! ### rows of texts -/
def scells (l : List (List UInt8)) : List Value := l.map fun x => .string (tx x)
theorem scells_snoc (l : List (List UInt8)) (x : List UInt8) : scells (l ++ [x]) = scells l ++ [.string (tx x)] := by simp [scells]
/-- A row of texts that the call owns, from block B on. -/
def SBuf (w : World) (B : Nat) (v : Value) (l : List (List UInt8)) : Prop := w.ownsRow B 9 1 v l.length (scells l)
theorem SBuf.lt {w : World} {B : Nat} {v : Value} {l : List (List UInt8)} (h : SBuf w B v l) : ∀ g, v.ownBlock = some g → B ≤ g ∧ g < w.heap.size := World.ownsRow.lt h
theorem SBuf.fresh {w w' : World} {B : Nat} {v : Value} {l : List (List UInt8)} (h : SBuf w B v l) (hf : Fresh w w') : SBuf w' B v l := by
  refine World.ownsRow.kept (row := none) h ⟨hf.os, hf.tape, hf.output, hf.size, fun k hk _ => hf.block k hk⟩ ?_
  rcases h' : v.ownBlock with _ | g
  · exact .inl rfl
  · exact .inr (by simp)
theorem SBuf.more {w' : World} {B : Nat} {v : Value} {l : List (List UInt8)} {x : List UInt8} (h : w'.ownsRow B 9 1 v (l.length + 1) (scells l ++ [.string (tx x)])) : SBuf w' B v (l ++ [x]) := by
  unfold SBuf
  rw [scells_snoc, List.length_append]
  exact h
theorem scells_get (l : List (List UInt8)) (j : Nat) (h : j < l.length) : (scells l)[j]? = some (.string (tx l[j])) := by
  unfold scells
  rw [List.getElem?_map, List.getElem?_eq_getElem h]; rfl
theorem SBuf.cell {w : World} {B g n cap : Nat} {l : List (List UInt8)} (h : SBuf w B (.slice (some ⟨g, 0, none⟩) n cap) l) (j : Nat) (hj : j < l.length) : w.cell? ⟨g, j, none⟩ = some (.string (tx l[j])) := by
  have := World.ownsRow.cells h rfl j _ (scells_get l j hj)
  rwa [addr_add0] at this
theorem info9 : (Tryd.prog.info? 9).map (fun i => (i.zero, i.size, i.bytes)) = some (some (.string ⟨#[]⟩), 1, 16) := by kernel_rfl
end Go.Proofs.YtfhhmajkacjbgaaDoor
namespace Go.Proofs.YtfhhmajkacjbgaaDoor

/-- A container; its texts as they are. -/
structure Ct where
  name : ByteArray
  image : ByteArray
  cmd : List ByteArray
  ports : List (Int × Int)
  cpu : Int
  mem : Int
  env : List (ByteArray × ByteArray)
/-- A pod. -/
structure Pd where
  name : ByteArray
  ns : ByteArray
  restart : Int
  grace : Int
  host : Bool
  cs : List Ct

/-! ### names -/
def inI (c : UInt8) : Bool := smallB c || (capB c || (digB c || (c == 46 || (c == 95 || (c == 45 || (c == 47 || (c == 58 || c == 64)))))))
def varB (l : List UInt8) : Bool := (decide (1 ≤ l.length) && decide (l.length ≤ 63)) && (!digB (l.headD 0) && l.all inV)
def imgB (l : List UInt8) : Bool := (decide (1 ≤ l.length) && decide (l.length ≤ 255)) && ((smallB (l.headD 0) || digB (l.headD 0)) && l.all inI)

/-! ### what is wrong: the code -/
def textE (s : ByteArray) : Int := if Lib.validD s.data.toList = true then (if 4096 < s.size then 2 else 0) else 10
def memT (s : ByteArray) (l : List ByteArray) : Bool := l.any fun t => decide (t = s)
def memP (s : Int × Int) (l : List (Int × Int)) : Bool := l.any fun t => decide (t = s)
def cmdE : List ByteArray → Int
  | [] => 0
  | s :: r => if textE s = 0 then cmdE r else textE s
def portBad (p : Int × Int) : Bool := decide (p.1 < 1) || (decide (65535 < p.1) || (decide (p.2 < 0) || decide (1 < p.2)))
def portsE : List (Int × Int) → List (Int × Int) → Int
  | _, [] => 0
  | ahead, p :: r => if portBad p = true then 7 else if memP p ahead = true then 8 else portsE (ahead ++ [p]) r
def envE : List ByteArray → List (ByteArray × ByteArray) → Int
  | _, [] => 0
  | ahead, v :: r => if varB v.1.data.toList = true then (if memT v.1 ahead = true then 8 else if textE v.2 = 0 then envE (ahead ++ [v.1]) r else textE v.2) else 13
def manyE (c : Ct) : Bool := decide (16 < c.cmd.length) || (decide (16 < c.ports.length) || decide (16 < c.env.length))
def rangeE (c : Ct) : Bool := decide (c.cpu < 1) || (decide (64000 < c.cpu) || (decide (c.mem < 1) || decide (1048576 < c.mem)))
/-- Behind its name. -/
def restE (c : Ct) : Int :=
  if imgB c.image.data.toList = true then
    (if manyE c = true then 18 else if rangeE c = true then 7 else if cmdE c.cmd = 0 then (if portsE [] c.ports = 0 then envE [] c.env else portsE [] c.ports) else cmdE c.cmd)
  else 6
def ctE (ahead : List ByteArray) (c : Ct) : Int := if labB c.name.data.toList = true then (if memT c.name ahead = true then 8 else restE c) else 13
def csE : List ByteArray → List Ct → Int
  | _, [] => 0
  | ahead, c :: r => if ctE ahead c = 0 then csE (ahead ++ [c.name]) r else ctE ahead c
def headE (p : Pd) : Int :=
  if nameB p.name.data.toList = true ∧ labB p.ns.data.toList = true then
    (if p.restart < 0 ∨ 2 < p.restart ∨ p.grace < 1 ∨ 3600 < p.grace then 7 else if p.cs.length = 0 then 16 else if 16 < p.cs.length then 18 else 0)
  else 13
def podE (p : Pd) : Int := if headE p = 0 then csE [] p.cs else headE p

/-! ### defaults -/
def nsDef : ByteArray := ⟨#[100, 101, 102, 97, 117, 108, 116]⟩
def defC (c : Ct) : Ct := { c with cpu := if c.cpu = 0 then 100 else c.cpu, mem := if c.mem = 0 then 64 else c.mem }
def defP (p : Pd) : Pd := { p with ns := if p.ns.size = 0 then nsDef else p.ns, grace := if p.grace = 0 then 30 else p.grace, cs := p.cs.map defC }
theorem defC_twice (c : Ct) : defC (defC c) = defC c := by
  unfold defC
  dsimp only
  congr 1
  · split <;> simp_all
  · split <;> simp_all
theorem defP_twice (p : Pd) : defP (defP p) = defP p := by
  unfold defP
  dsimp only
  have h1 : (List.map defC (List.map defC p.cs)) = List.map defC p.cs := by
    rw [List.map_map]
    exact List.map_congr_left (fun c _ => defC_twice c)
  rw [h1]
  congr 1
  · by_cases h : p.ns.size = 0
    · rw [if_pos h, if_neg (by decide)]
    · rw [if_neg h, if_neg h]
  · split <;> simp_all
theorem csE_def : ∀ (r : List Ct) (ahead : List ByteArray), csE ahead r = 0 → r.map defC = r
  | [], _, _ => rfl
  | c :: r, ahead, h => by
    rw [csE] at h
    by_cases h0 : ctE ahead c = 0
    · rw [if_pos h0] at h
      rw [List.map_cons, csE_def r _ h]
      congr 1
      have hr : rangeE c = false := by
        cases hr : rangeE c with
        | false => rfl
        | true =>
          exfalso
          unfold ctE restE at h0
          split at h0
          · split at h0
            · omega
            · split at h0
              · split at h0
                · omega
                · simp [hr] at h0
              · omega
          · omega
      unfold rangeE at hr
      simp only [Bool.or_eq_false_iff, decide_eq_false_iff_not] at hr
      unfold defC
      rw [if_neg (by omega), if_neg (by omega)]
    · rw [if_neg h0] at h; exact absurd h h0
theorem podE_def (p : Pd) (h : podE p = 0) : defP p = p := by
  unfold podE at h
  by_cases h0 : headE p = 0
  · rw [if_pos h0] at h
    unfold headE at h0
    split at h0
    · rename_i hn
      split at h0
      · omega
      · unfold defP
        rw [csE_def _ _ h, if_neg (by
          have h1 := (labB_len hn.2).1
          have h2 : p.ns.data.toList.length = p.ns.size := by simp
          omega), if_neg (by omega)]
    · omega
  · rw [if_neg h0] at h; exact absurd h h0

/-! ### alike -/
def sameC (a b : Ct) : Bool := decide (a.name = b.name) && (decide (a.image = b.image) && (decide (a.cmd = b.cmd) && (decide (a.ports = b.ports) && (decide (a.cpu = b.cpu) && (decide (a.mem = b.mem) && decide (a.env = b.env))))))
theorem sameC_eq (a b : Ct) : sameC a b = true ↔ a = b := by
  obtain ⟨n, i, c, p, u, m, e⟩ := a
  obtain ⟨n', i', c', p', u', m', e'⟩ := b
  unfold sameC
  simp only [Bool.and_eq_true, decide_eq_true_eq, Ct.mk.injEq]
def sameL : List Ct → List Ct → Bool
  | [], [] => true
  | a :: r, b :: t => sameC a b && sameL r t
  | _, _ => false
theorem sameL_eq : ∀ (r t : List Ct), sameL r t = true ↔ r = t
  | [], [] => by simp [sameL]
  | [], b :: t => by simp [sameL]
  | a :: r, [] => by simp [sameL]
  | a :: r, b :: t => by
    rw [sameL, Bool.and_eq_true, sameC_eq, sameL_eq r t, List.cons.injEq]
def sameP (a b : Pd) : Bool := decide (a.name = b.name) && (decide (a.ns = b.ns) && (decide (a.restart = b.restart) && (decide (a.grace = b.grace) && (decide (a.host = b.host) && sameL a.cs b.cs))))
theorem sameP_eq (a b : Pd) : sameP a b = true ↔ a = b := by
  obtain ⟨n, s, r, g, h, c⟩ := a
  obtain ⟨n', s', r', g', h', c'⟩ := b
  unfold sameP
  simp only [Bool.and_eq_true, decide_eq_true_eq, sameL_eq, Pd.mk.injEq]
theorem sameP_refl (a : Pd) : sameP a a = true := (sameP_eq a a).2 rfl
end Go.Proofs.YtfhhmajkacjbgaaDoor
namespace Go.Proofs.YtfhhmajkacjbgaaDoor
open Go.ChangeShapes Go.WideShapes Go.ChangeAt Go.RowKit

theorem Fresh.cell {a b : World} (h : Fresh a b) {p : Addr} {v : Value} (hc : a.cell? p = some v) : b.cell? p = some v :=
  (Below.cell h (World.block_lt_of_cell? a p hc)).trans hc
theorem Fresh.at {a b : World} (h : Fresh a b) {k : Nat} {o : Obj} (hk : a.heap[k]? = some o) : b.heap[k]? = some o := by
  rw [h.block k (Array.getElem?_eq_some_iff.1 hk).1]; exact hk
theorem addr_add (b off n : Nat) : (⟨b, off, none⟩ : Addr).add n = ⟨b, off + n, none⟩ := by
  unfold Addr.add
  split <;> simp_all
/-- A slice at a reads as these cells, wherever it begins. -/
def RowAt (w : World) (a : Option Addr) (cs : List Value) : Prop :=
  cs = [] ∨ ∃ g o, a = some ⟨g, o, none⟩ ∧ ∀ j x, cs[j]? = some x → w.cell? ⟨g, o + j, none⟩ = some x
theorem RowAt.move {w w' : World} {a : Option Addr} {cs : List Value} (h : RowAt w a cs) (f : Fresh w w') : RowAt w' a cs := by
  rcases h with h | ⟨g, o, e, h⟩
  · exact .inl h
  · exact .inr ⟨g, o, e, fun j x hj => f.cell (h j x hj)⟩
theorem RowAt.nil (w : World) (a : Option Addr) : RowAt w a [] := .inl rfl
theorem RowAt.form {w : World} {a : Option Addr} {cs : List Value} (h : RowAt w a cs) (hne : cs ≠ []) : ∃ g o, a = some ⟨g, o, none⟩ ∧ ∀ j x, cs[j]? = some x → w.cell? ⟨g, o + j, none⟩ = some x := by
  rcases h with h | h
  · exact absurd h hne
  · exact h
theorem RowAt.owns {w : World} {B : Nat} {t : TypeId} {k n m c : Nat} {a : Option Addr} {xs : List Value} (h : w.ownsRow B t k (.slice a m c) n xs) : RowAt w a xs := by
  rcases h.2 with ⟨e, hn⟩ | ⟨g, cap, cur, e, _⟩
  · have := h.1
    rw [hn] at this
    exact .inl (List.eq_nil_of_length_eq_zero (by simpa using this))
  · cases e
    exact .inr ⟨g, 0, rfl, fun j x hj => by rw [Nat.zero_add, ← addr_add0]; exact h.cells (g := g) rfl j x hj⟩
theorem flat_length {α : Type} (f : α → List Value) (k : Nat) (h : ∀ x, (f x).length = k) (l : List α) : (l.flatMap f).length = l.length * k := by
  induction l with
  | nil => simp
  | cons a l ih => simp only [List.flatMap_cons, List.length_append, ih, h, List.length_cons, Nat.succ_mul]; omega
theorem flat_get {α : Type} (f : α → List Value) (k : Nat) (h : ∀ x, (f x).length = k) (l : List α) : ∀ (i : Nat) (hi : i < l.length) (j : Nat), j < k → (l.flatMap f)[i * k + j]? = (f l[i])[j]? := by
  induction l with
  | nil => intro i hi; simp at hi
  | cons a l ih =>
    intro i hi j hj
    rw [List.flatMap_cons]
    cases i with
    | zero => rw [List.getElem?_append_left (by rw [h]; omega)]; simp
    | succ i =>
      have e : (i + 1) * k + j = k + (i * k + j) := by rw [Nat.succ_mul]; omega
      rw [List.getElem?_append_right (by rw [h]; omega), h, e, Nat.add_sub_cancel_left]
      exact ih i (by simpa using hi) j hj

/-! ### the rows of a container -/
def tcell (s : ByteArray) : List Value := [.string s]
def pcell (p : Int × Int) : List Value := [.int .i64 p.1, .int .i64 p.2]
def ecell (p : ByteArray × ByteArray) : List Value := [.string p.1, .string p.2]
def tcells (l : List ByteArray) : List Value := l.flatMap tcell
def pcells (l : List (Int × Int)) : List Value := l.flatMap pcell
def ecells (l : List (ByteArray × ByteArray)) : List Value := l.flatMap ecell
/-- A container, with where its rows lie. -/
structure CM where
  c : Ct
  ca : Option Addr
  cc : Nat
  pa : Option Addr
  pc : Nat
  ea : Option Addr
  ec : Nat
def CM.cells (m : CM) : List Value := [.string m.c.name, .string m.c.image, .slice m.ca m.c.cmd.length m.cc, .slice m.pa m.c.ports.length m.pc, .int .i64 m.c.cpu, .int .i64 m.c.mem, .slice m.ea m.c.env.length m.ec]
def CM.val (m : CM) : Value := .agg #[.string m.c.name, .string m.c.image, .slice m.ca m.c.cmd.length m.cc, .slice m.pa m.c.ports.length m.pc, .int .i64 m.c.cpu, .int .i64 m.c.mem, .slice m.ea m.c.env.length m.ec]
/-- Its rows lie in memory; nothing of it is great. -/
structure CM.In (w : World) (m : CM) : Prop where
  cmd : RowAt w m.ca (tcells m.c.cmd)
  ports : RowAt w m.pa (pcells m.c.ports)
  env : RowAt w m.ea (ecells m.c.env)
  room : m.c.ports.length ≤ m.pc
theorem CM.In.move {w w' : World} {m : CM} (h : m.In w) (f : Fresh w w') : m.In w' := ⟨h.cmd.move f, h.ports.move f, h.env.move f, h.room⟩
/-- Not great. -/
structure Ct.Low (c : Ct) : Prop where
  name : c.name.size ≤ 1048576
  image : c.image.size ≤ 1048576
  lc : c.cmd.length ≤ 1048576
  lp : c.ports.length ≤ 1048576
  le : c.env.length ≤ 1048576
  cmd : ∀ s ∈ c.cmd, s.size ≤ 1048576
  env : ∀ v ∈ c.env, v.1.size ≤ 1048576 ∧ v.2.size ≤ 1048576
  icpu : (Lit.int .i64 c.cpu).wf = true
  imem : (Lit.int .i64 c.mem).wf = true
  ip : ∀ p ∈ c.ports, (Lit.int .i64 p.1).wf = true ∧ (Lit.int .i64 p.2).wf = true
def ccells (l : List CM) : List Value := l.flatMap CM.cells
/-- A pod, with where its containers lie. -/
structure PM where
  name : ByteArray
  ns : ByteArray
  restart : Int
  grace : Int
  host : Bool
  a : Option Addr
  cap : Nat
  cs : List CM
def PM.pd (p : PM) : Pd := ⟨p.name, p.ns, p.restart, p.grace, p.host, p.cs.map (·.c)⟩
def PM.val (p : PM) : Value := .agg #[.string p.name, .string p.ns, .int .i64 p.restart, .int .i64 p.grace, .bool p.host, .slice p.a p.cs.length p.cap]
structure PM.At (w : World) (p : PM) : Prop where
  row : RowAt w p.a (ccells p.cs)
  ins : ∀ m ∈ p.cs, m.In w
  le : p.cs.length ≤ p.cap
theorem PM.At.move {w w' : World} {p : PM} (h : p.At w) (f : Fresh w w') : p.At w' := ⟨h.row.move f, fun m hm => (h.ins m hm).move f, h.le⟩
structure PM.Low (p : PM) : Prop where
  name : p.name.size ≤ 1048576
  ns : p.ns.size ≤ 1048576
  ir : (Lit.int .i64 p.restart).wf = true
  ig : (Lit.int .i64 p.grace).wf = true
  len : p.cs.length ≤ 1048576
  cs : ∀ m ∈ p.cs, m.c.Low

/-! ### what lies at a place -/
theorem tcells_len (l : List ByteArray) : (tcells l).length = l.length := by rw [tcells, flat_length tcell 1 (fun _ => rfl)]; omega
theorem pcells_len (l : List (Int × Int)) : (pcells l).length = l.length * 2 := flat_length pcell 2 (fun _ => rfl) l
theorem ecells_len (l : List (ByteArray × ByteArray)) : (ecells l).length = l.length * 2 := flat_length ecell 2 (fun _ => rfl) l
theorem ccells_len (l : List CM) : (ccells l).length = l.length * 7 := flat_length CM.cells 7 (fun _ => rfl) l
theorem tcells_ne {l : List ByteArray} {i : Nat} (h : i < l.length) : tcells l ≠ [] := fun e => by
  have := tcells_len l
  rw [e] at this
  simp at this; omega
theorem pcells_ne {l : List (Int × Int)} {i : Nat} (h : i < l.length) : pcells l ≠ [] := fun e => by
  have := pcells_len l
  rw [e] at this
  simp at this; omega
theorem ecells_ne {l : List (ByteArray × ByteArray)} {i : Nat} (h : i < l.length) : ecells l ≠ [] := fun e => by
  have := ecells_len l
  rw [e] at this
  simp at this; omega
theorem ccells_ne {l : List CM} {i : Nat} (h : i < l.length) : ccells l ≠ [] := fun e => by
  have := ccells_len l
  rw [e] at this
  simp at this; omega
theorem trow_form {w : World} {a : Option Addr} {l : List ByteArray} (h : RowAt w a (tcells l)) {i0 : Nat} (h0 : i0 < l.length) : ∃ g o, a = some ⟨g, o, none⟩ ∧ ∀ i (hi : i < l.length), w.cell? ⟨g, o + i, none⟩ = some (.string l[i]) := by
  obtain ⟨g, o, e, h⟩ := h.form (tcells_ne h0)
  refine ⟨g, o, e, fun i hi => h i _ ?_⟩
  have := flat_get tcell 1 (fun _ => rfl) l i hi 0 (by omega)
  rw [Nat.mul_one, Nat.add_zero] at this
  exact this
theorem prow_form {w : World} {a : Option Addr} {l : List (Int × Int)} (h : RowAt w a (pcells l)) {i0 : Nat} (h0 : i0 < l.length) : ∃ g o, a = some ⟨g, o, none⟩ ∧ ∀ i (hi : i < l.length), w.cell? ⟨g, o + i * 2, none⟩ = some (.int .i64 l[i].1) ∧ w.cell? ⟨g, o + i * 2 + 1, none⟩ = some (.int .i64 l[i].2) := by
  obtain ⟨g, o, e, h⟩ := h.form (pcells_ne h0)
  refine ⟨g, o, e, fun i hi => ⟨h _ _ ?_, ?_⟩⟩
  · exact flat_get pcell 2 (fun _ => rfl) l i hi 0 (by omega)
  · have := h _ _ (flat_get pcell 2 (fun _ => rfl) l i hi 1 (by omega))
    rw [Nat.add_assoc]; exact this
theorem erow_form {w : World} {a : Option Addr} {l : List (ByteArray × ByteArray)} (h : RowAt w a (ecells l)) {i0 : Nat} (h0 : i0 < l.length) : ∃ g o, a = some ⟨g, o, none⟩ ∧ ∀ i (hi : i < l.length), w.cell? ⟨g, o + i * 2, none⟩ = some (.string l[i].1) ∧ w.cell? ⟨g, o + i * 2 + 1, none⟩ = some (.string l[i].2) := by
  obtain ⟨g, o, e, h⟩ := h.form (ecells_ne h0)
  refine ⟨g, o, e, fun i hi => ⟨h _ _ ?_, ?_⟩⟩
  · exact flat_get ecell 2 (fun _ => rfl) l i hi 0 (by omega)
  · have := h _ _ (flat_get ecell 2 (fun _ => rfl) l i hi 1 (by omega))
    rw [Nat.add_assoc]; exact this
/-- The seven cells of a container at a place. -/
def CM.lies (w : World) (g o : Nat) (m : CM) : Prop :=
  w.cell? ⟨g, o, none⟩ = some (.string m.c.name) ∧ w.cell? ⟨g, o + 1, none⟩ = some (.string m.c.image) ∧ w.cell? ⟨g, o + 2, none⟩ = some (.slice m.ca m.c.cmd.length m.cc) ∧ w.cell? ⟨g, o + 3, none⟩ = some (.slice m.pa m.c.ports.length m.pc) ∧
  w.cell? ⟨g, o + 4, none⟩ = some (.int .i64 m.c.cpu) ∧ w.cell? ⟨g, o + 5, none⟩ = some (.int .i64 m.c.mem) ∧ w.cell? ⟨g, o + 6, none⟩ = some (.slice m.ea m.c.env.length m.ec)
theorem crow_form {w : World} {a : Option Addr} {l : List CM} (h : RowAt w a (ccells l)) {i0 : Nat} (h0 : i0 < l.length) : ∃ g o, a = some ⟨g, o, none⟩ ∧ ∀ i (hi : i < l.length), l[i].lies w g (o + i * 7) := by
  obtain ⟨g, o, e, h⟩ := h.form (ccells_ne h0)
  have each : ∀ i (hi : i < l.length) j x, j < 7 → l[i].cells[j]? = some x → w.cell? ⟨g, o + i * 7 + j, none⟩ = some x := fun i hi j x hj hx => by
    have := h _ _ ((flat_get CM.cells 7 (fun _ => rfl) l i hi j hj).trans hx)
    rw [Nat.add_assoc]; exact this
  exact ⟨g, o, e, fun i hi => ⟨each i hi 0 _ (by omega) rfl, each i hi 1 _ (by omega) rfl, each i hi 2 _ (by omega) rfl, each i hi 3 _ (by omega) rfl, each i hi 4 _ (by omega) rfl, each i hi 5 _ (by omega) rfl, each i hi 6 _ (by omega) rfl⟩⟩
/-- A container in a block of its own. -/
theorem box7 {w : World} {b t : Nat} {z : Nat × Nat} {m : CM} (h : w.heap[b]? = some (.cells #[.string m.c.name, .string m.c.image, .slice m.ca m.c.cmd.length m.cc, .slice m.pa m.c.ports.length m.pc, .int .i64 m.c.cpu, .int .i64 m.c.mem, .slice m.ea m.c.env.length m.ec] t z)) : m.lies w b 0 :=
  ⟨cell_of_at h rfl, cell_of_at h rfl, cell_of_at h rfl, cell_of_at h rfl, cell_of_at h rfl, cell_of_at h rfl, cell_of_at h rfl⟩
end Go.Proofs.YtfhhmajkacjbgaaDoor
namespace Go.Proofs.YtfhhmajkacjbgaaDoor
open Go.ChangeShapes Go.WideShapes Go.ChangeAt Go.RowKit
theorem fresh_drewN (w : World) (n : Nat) : Fresh w (w.drewN n) := ⟨rfl, rfl, rfl, Nat.le_refl _, fun _ _ => rfl⟩
/-- Texts, as they are compared. -/
theorem tl_ne {x y : ByteArray} (h : ¬ x = y) : (x.toList == y.toList) = false := by
  rw [beq_eq_false_iff_ne]
  intro e
  rw [Lib.toList_data, Lib.toList_data] at e
  exact h (ByteArray.ext (Array.toList_inj.1 e))
theorem tl_dec (x y : ByteArray) : (x.toList == y.toList) = decide (x = y) := by
  by_cases h : x = y
  · subst h; simp
  · rw [tl_ne h, decide_eq_false h]
theorem lists_eq {α : Type} {l m : List α} (h : l.length = m.length) (k : ∀ j (h1 : j < l.length) (h2 : j < m.length), l[j] = m[j]) : l = m :=
  List.ext_getElem h fun j h1 h2 => k j h1 h2
set_option maxRecDepth 100000 in
set_option maxHeartbeats 1000000 in
theorem rtexts_any (l m : List ByteArray) (a b : Option Addr) (ca cb : Nat) (w : World) (ha : RowAt w a (tcells l)) (hb : RowAt w b (tcells m)) (hl : l.length ≤ 4000000) (hm : m.length ≤ 4000000) :
    Calls Tryd.prog 35 #[.slice a l.length ca, .slice b m.length cb] w fun e w' => e = .returned (.bool (decide (l = m))) ∧ Fresh w w' := by
  by_cases hlen : l.length = m.length
  · have HA := Lib.hid ha
    have HB := Lib.hid hb
    have HLEN := Lib.hid hlen
    clear ha hb
    rw [← hlen]
    clear hlen
    go_enter Tryd.func35, Tryd.ntmps35
    go_wp2
    go_loopw [5] (fun a5 wr => ∃ (k : Nat), a5 = .int .i64 (k : Int) ∧ k ≤ l.length ∧ Hid (Fresh w wr) ∧ Hid (∀ j (h1 : j < l.length) (h2 : j < m.length), j < k → l[j] = m[j])) (fun a5 _ => l.length - (intOf a5).toNat)
    case atStart => exact ⟨0, rfl, Nat.zero_le _, Fresh.refl _, fun _ _ _ h => absurd h (Nat.not_lt_zero _)⟩
    case round =>
      obtain ⟨k, rfl, hk, HF, HE⟩ := hrel
      by_cases hlt : k < l.length
      · have hlt2 : k < m.length := by rw [← HLEN.out]; exact hlt
        obtain ⟨g1, o1, rfl, hc1⟩ := trow_form (HA.out.move HF.out) hlt
        obtain ⟨g2, o2, rfl, hc2⟩ := trow_form (HB.out.move HF.out) hlt2
        have c1 := hc1 k hlt
        have c2 := hc2 k hlt2
        clear hc1 hc2
        have HNO : Hid (l[k] ≠ m[k] → decide (l = m) = false) := fun h => by
          rw [decide_eq_false_iff_not]
          intro e
          subst e
          exact h rfl
        have HYES : Hid (l[k] = m[k] → ∀ j (h1 : j < l.length) (h2 : j < m.length), j < k + 1 → l[j] = m[j]) := fun h j h1 h2 hj => by
          rcases Nat.lt_or_ge j k with h3 | h3
          · exact HE.out j h1 h2 h3
          · obtain rfl : j = k := by omega
            exact h
        generalize l[k] = x at *
        generalize m[k] = y at *
        by_cases hxy : x = y
        · have HY2 := Lib.hid (HYES.out hxy)
          clear HYES HNO
          subst hxy
          go_wp2_with (fail)
          go_quiet (fail)
          go_wp2
          all_goals try (exfalso; omega)
          go_roundw
          case rel => exact ⟨k + 1, by simp, by omega, HF.out.trans (fresh_drewN _ _), HY2.out⟩
          case measure => simp [intOf]; omega
        · have HN2 := Lib.hid (HNO.out hxy)
          clear HYES HNO
          have e0 := tl_ne hxy
          go_wp2_with (fail)
          go_quiet (fail)
          go_wp2
          all_goals try (exfalso; omega)
          go_ret
          exact ⟨ret_bool HN2.out.symm, HF.out.trans (fresh_drewN _ _)⟩
      · obtain rfl : k = l.length := by omega
        have HR : Hid (decide (l = m) = true) := by
          rw [Hid, decide_eq_true_eq]
          exact lists_eq HLEN.out (fun j h1 h2 => HE.out j h1 h2 h1)
        go_wp2
        all_goals try (exfalso; omega)
        go_ret
        exact ⟨ret_bool HR.out.symm, HF.out⟩
  · have HR : Hid (decide (l = m) = false) := by
      rw [Hid, decide_eq_false_iff_not]
      intro e
      exact hlen (by rw [e])
    go_enter Tryd.func35, Tryd.ntmps35
    go_wp2
    all_goals try (exfalso; omega)
    go_ret
    exact ⟨ret_bool HR.out.symm, Fresh.refl _⟩
end Go.Proofs.YtfhhmajkacjbgaaDoor
namespace Go.Proofs.YtfhhmajkacjbgaaDoor
open Go.ChangeShapes Go.WideShapes Go.ChangeAt Go.RowKit

theorem infoC : (Tryd.prog.info? 60).map (fun i => (i.zero, i.size, i.bytes)) = some (some (.agg #[.string ⟨#[]⟩, .string ⟨#[]⟩, .slice none 0 0, .slice none 0 0, .int .i64 0, .int .i64 0, .slice none 0 0]), 7, 120) := by kernel_rfl
theorem grownBy_trans' {a b c : World} {r : Option Nat} (h : a.grownBy b r) (k : b.grownBy c r) : a.grownBy c r :=
  ⟨k.os.trans h.os, k.tape.trans h.tape, k.output.trans h.output, Nat.le_trans h.size k.size, fun j hj hne => by
    rw [k.block j (Nat.lt_of_lt_of_le hj h.size) hne, h.block j hj hne]⟩
theorem Fresh.grownBy' {w w' : World} (hf : Fresh w w') (row : Option Nat) : w.grownBy w' row := ⟨hf.os, hf.tape, hf.output, hf.size, fun k hk _ => hf.block k hk⟩
/-- A pod's own box, and that of the answer. -/
structure DPre (ty : Nat) (w W0 : World) (name ns : ByteArray) (rs gr : Int) (ho : Bool) (a : Option Addr) (n cap : Nat) : Prop where
  at1 : W0.heap[w.heap.size]? = some (.cells #[.string name, .string ns, .int .i64 rs, .int .i64 gr, .bool ho, .slice a n cap] ty)
  at2 : W0.heap[w.heap.size + 1]? = some (.cells #[.string ⟨#[]⟩, .string ⟨#[]⟩, .int .i64 0, .int .i64 0, .bool false, .slice none 0 0] ty)
  fr : Fresh w W0
  sz : W0.heap.size = w.heap.size + 2
theorem dpre0 (ty : Nat) (w : World) (name ns : ByteArray) (rs gr : Int) (ho : Bool) (a : Option Addr) (n cap : Nat) :
    DPre ty w ((w.alloc (.cells #[.string name, .string ns, .int .i64 rs, .int .i64 gr, .bool ho, .slice a n cap] ty)).alloc (.cells #[.string ⟨#[]⟩, .string ⟨#[]⟩, .int .i64 0, .int .i64 0, .bool false, .slice none 0 0] ty)) name ns rs gr ho a n cap where
  at1 := at_alloc (at_new _ _)
  at2 := by have := at_new (w.alloc (.cells #[.string name, .string ns, .int .i64 rs, .int .i64 gr, .bool ho, .slice a n cap] ty)) (.cells #[.string ⟨#[]⟩, .string ⟨#[]⟩, .int .i64 0, .int .i64 0, .bool false, .slice none 0 0] ty); rw [World.size_alloc] at this; exact this
  fr := ((Fresh.refl w).alloc _).alloc _
  sz := by simp
theorem DPre.setNs {ty : Nat} {w W0 : World} {name ns : ByteArray} {rs gr : Int} {ho : Bool} {a : Option Addr} {n cap : Nat} (h : DPre ty w W0 name ns rs gr ho a n cap) (s : ByteArray) : DPre ty w (W0.setCell ⟨w.heap.size, 1, none⟩ (.string s)) name s rs gr ho a n cap where
  at1 := by simp [World.setCell, Array.getElem?_modify, h.at1]
  at2 := by simp [World.setCell, Array.getElem?_modify, h.at2]
  fr := h.fr.setCell (p := ⟨w.heap.size, 1, none⟩) (Nat.le_refl _) _
  sz := by simp [h.sz]
theorem DPre.setGr {ty : Nat} {w W0 : World} {name ns : ByteArray} {rs gr : Int} {ho : Bool} {a : Option Addr} {n cap : Nat} (h : DPre ty w W0 name ns rs gr ho a n cap) (s : Int) : DPre ty w (W0.setCell ⟨w.heap.size, 3, none⟩ (.int .i64 s)) name ns rs s ho a n cap where
  at1 := by simp [World.setCell, Array.getElem?_modify, h.at1]
  at2 := by simp [World.setCell, Array.getElem?_modify, h.at2]
  fr := h.fr.setCell (p := ⟨w.heap.size, 3, none⟩) (Nat.le_refl _) _
  sz := by simp [h.sz]
theorem box6p {w : World} {b ty : Nat} {name ns : ByteArray} {rs gr : Int} {ho : Bool} {a : Option Addr} {n cap : Nat} (h : w.heap[b]? = some (.cells #[.string name, .string ns, .int .i64 rs, .int .i64 gr, .bool ho, .slice a n cap] ty)) :
    (w.cell? ⟨b, 0, none⟩ = some (.string name) ∧ w.cell? ⟨b, 1, none⟩ = some (.string ns) ∧ w.cell? ⟨b, 2, none⟩ = some (.int .i64 rs) ∧ w.cell? ⟨b, 3, none⟩ = some (.int .i64 gr) ∧ w.cell? ⟨b, 4, none⟩ = some (.bool ho) ∧ w.cell? ⟨b, 5, none⟩ = some (.slice a n cap)) ∧ ∀ i, w.frozen? ⟨b, i, none⟩ = false :=
  ⟨⟨cell_of_at h rfl, cell_of_at h rfl, cell_of_at h rfl, cell_of_at h rfl, cell_of_at h rfl, cell_of_at h rfl⟩, fun i => by simp [World.frozen?, h]⟩
theorem at_set {W : World} {b : Nat} {cs : Array Value} {t : TypeId} {z : Nat × Nat} (h : W.heap[b]? = some (.cells cs t z)) (i : Nat) (v : Value) : (W.setCell ⟨b, i, none⟩ v).heap[b]? = some (.cells (cs.setIfInBounds i v) t z) := by
  simp [World.setCell, Array.getElem?_modify, h]
/-- A container's box. -/
def Box7 (ty : Nat) (w : World) (b : Nat) (s0 s1 : ByteArray) (v2 v3 : Value) (n4 n5 : Int) (v6 : Value) : Prop := w.heap[b]? = some (.cells #[.string s0, .string s1, v2, v3, .int .i64 n4, .int .i64 n5, v6] ty)
theorem Box7.cells {ty : Nat} {w : World} {b : Nat} {s0 s1 : ByteArray} {v2 v3 : Value} {n4 n5 : Int} {v6 : Value} (h : Box7 ty w b s0 s1 v2 v3 n4 n5 v6) :
    (w.cell? ⟨b, 0, none⟩ = some (.string s0) ∧ w.cell? ⟨b, 1, none⟩ = some (.string s1) ∧ w.cell? ⟨b, 2, none⟩ = some v2 ∧ w.cell? ⟨b, 3, none⟩ = some v3 ∧ w.cell? ⟨b, 4, none⟩ = some (.int .i64 n4) ∧ w.cell? ⟨b, 5, none⟩ = some (.int .i64 n5) ∧ w.cell? ⟨b, 6, none⟩ = some v6) ∧ ∀ i, w.frozen? ⟨b, i, none⟩ = false :=
  ⟨⟨cell_of_at h rfl, cell_of_at h rfl, cell_of_at h rfl, cell_of_at h rfl, cell_of_at h rfl, cell_of_at h rfl, cell_of_at h rfl⟩, fun i => by simp [World.frozen?, show w.heap[b]? = _ from h]⟩
theorem box7_set (ty : Nat) (w : World) (s0 s1 : ByteArray) (v2 v3 : Value) (n4 n5 : Int) (v6 : Value) :
    Box7 ty ((((((((w.alloc (.cells #[.string ⟨#[]⟩, .string ⟨#[]⟩, .slice none 0 0, .slice none 0 0, .int .i64 0, .int .i64 0, .slice none 0 0] ty)).setCell ⟨w.heap.size, 0, none⟩ (.string s0)).setCell ⟨w.heap.size, 1, none⟩ (.string s1)).setCell ⟨w.heap.size, 2, none⟩ v2).setCell ⟨w.heap.size, 3, none⟩ v3).setCell ⟨w.heap.size, 4, none⟩ (.int .i64 n4)).setCell ⟨w.heap.size, 5, none⟩ (.int .i64 n5)).setCell ⟨w.heap.size, 6, none⟩ v6) w.heap.size s0 s1 v2 v3 n4 n5 v6 ∧
    Fresh w ((((((((w.alloc (.cells #[.string ⟨#[]⟩, .string ⟨#[]⟩, .slice none 0 0, .slice none 0 0, .int .i64 0, .int .i64 0, .slice none 0 0] ty)).setCell ⟨w.heap.size, 0, none⟩ (.string s0)).setCell ⟨w.heap.size, 1, none⟩ (.string s1)).setCell ⟨w.heap.size, 2, none⟩ v2).setCell ⟨w.heap.size, 3, none⟩ v3).setCell ⟨w.heap.size, 4, none⟩ (.int .i64 n4)).setCell ⟨w.heap.size, 5, none⟩ (.int .i64 n5)).setCell ⟨w.heap.size, 6, none⟩ v6) := by
  refine ⟨?_, ?_⟩
  · have h := at_new w (.cells #[.string ⟨#[]⟩, .string ⟨#[]⟩, .slice none 0 0, .slice none 0 0, .int .i64 0, .int .i64 0, .slice none 0 0] ty)
    exact at_set (at_set (at_set (at_set (at_set (at_set (at_set h 0 (.string s0)) 1 (.string s1)) 2 v2) 3 v3) 4 (.int .i64 n4)) 5 (.int .i64 n5)) 6 v6
  · repeat (refine Fresh.setCell ?_ (by exact Nat.le_refl _) _)
    exact (Fresh.refl w).alloc _
theorem Box7.set4 {ty : Nat} {w W : World} {s0 s1 : ByteArray} {v2 v3 : Value} {n4 n5 : Int} {v6 : Value} (h : Box7 ty W w.heap.size s0 s1 v2 v3 n4 n5 v6 ∧ Fresh w W) (m : Int) : Box7 ty (W.setCell ⟨w.heap.size, 4, none⟩ (.int .i64 m)) w.heap.size s0 s1 v2 v3 m n5 v6 ∧ Fresh w (W.setCell ⟨w.heap.size, 4, none⟩ (.int .i64 m)) :=
  ⟨by have := h.1; simp [Box7, World.setCell, Array.getElem?_modify, show W.heap[w.heap.size]? = _ from this], h.2.setCell (p := ⟨w.heap.size, 4, none⟩) (Nat.le_refl _) _⟩
theorem Box7.set5 {ty : Nat} {w W : World} {s0 s1 : ByteArray} {v2 v3 : Value} {n4 n5 : Int} {v6 : Value} (h : Box7 ty W w.heap.size s0 s1 v2 v3 n4 n5 v6 ∧ Fresh w W) (m : Int) : Box7 ty (W.setCell ⟨w.heap.size, 5, none⟩ (.int .i64 m)) w.heap.size s0 s1 v2 v3 n4 m v6 ∧ Fresh w (W.setCell ⟨w.heap.size, 5, none⟩ (.int .i64 m)) :=
  ⟨by have := h.1; simp [Box7, World.setCell, Array.getElem?_modify, show W.heap[w.heap.size]? = _ from this], h.2.setCell (p := ⟨w.heap.size, 5, none⟩) (Nat.le_refl _) _⟩
def CM.dft (m : CM) : CM := { m with c := defC m.c }
theorem dft_in {w : World} {m : CM} (h : m.In w) : m.dft.In w := ⟨h.cmd, h.ports, h.env, h.room⟩
/-- A row of containers that the call owns. -/
def CBuf (ty : Nat) (w : World) (B : Nat) (v : Value) (l : List CM) : Prop := w.ownsRow B ty 7 v l.length (ccells l)
theorem CBuf.fresh {ty : Nat} {w w' : World} {B : Nat} {v : Value} {l : List CM} (h : CBuf ty w B v l) (hf : Fresh w w') : CBuf ty w' B v l := by
  refine World.ownsRow.kept (row := none) h (hf.grownBy' none) ?_
  rcases h' : v.ownBlock with _ | g
  · exact .inl rfl
  · exact .inr (by simp)
theorem cbuf_shape {ty : Nat} {w : World} {B : Nat} {v : Value} {l : List CM} (h : CBuf ty w B v l) : ∃ o c, v = .slice o l.length c := by
  rcases h.2 with ⟨h1, h2⟩ | ⟨g, cap, c2, h1, _⟩
  · exact ⟨none, 0, by rw [h1, h2]⟩
  · exact ⟨_, _, h1⟩
theorem CBuf.more {ty : Nat} {w' : World} {B : Nat} {v : Value} {l : List CM} {m : CM} (h : w'.ownsRow B ty 7 v (l.length + 1) (ccells l ++ m.cells)) : CBuf ty w' B v (l ++ [m]) := by
  unfold CBuf
  rw [show ccells (l ++ [m]) = ccells l ++ m.cells by simp [ccells], List.length_append]
  exact h
theorem own_le {w : World} {B : Nat} {t : TypeId} {k n c : Nat} {o : Option Addr} {xs : List Value} (h : w.ownsRow B t k (.slice o n c) n xs) : n ≤ c := by
  rcases h.2 with ⟨e, hn⟩ | ⟨g, cap, cur, e, _, _, hn, _⟩
  · cases e; omega
  · cases e; exact hn
theorem news7 (w : World) (t : Nat) (l : List Value) : ∀ j u, l[j]? = some u → (w.alloc (.cells l.toArray t)).cell? ((⟨w.heap.size, 0, none⟩ : Addr).add j) = some u := fun j u hj => by
  rw [addr_add0]
  exact cell_of_at (at_new w (.cells l.toArray t)) (by simpa using hj)
end Go.Proofs.YtfhhmajkacjbgaaDoor
namespace Go.Proofs.YtfhhmajkacjbgaaDoor
open Go.ChangeShapes Go.WideShapes Go.ChangeAt Go.RowKit

/-- What Default answers. -/
def PM.dft (p : PM) (a : Option Addr) (cap : Nat) : PM := { p with ns := if p.ns.size = 0 then nsDef else p.ns, grace := if p.grace = 0 then 30 else p.grace, cs := p.cs.map CM.dft, a := a, cap := cap }
theorem dft_pd (p : PM) (a : Option Addr) (cap : Nat) : (p.dft a cap).pd = defP p.pd := by
  unfold PM.dft PM.pd defP
  simp only [List.map_map]
  rfl
theorem RowAt.set {w : World} {a : Option Addr} {cs : List Value} (h : RowAt w a cs) {p : Addr} (hp : ∀ ad : Addr, a = some ad → ad.block ≠ p.block) (v : Value) : RowAt (w.setCell p v) a cs := by
  rcases h with h | ⟨g, o, e, h⟩
  · exact .inl h
  · refine .inr ⟨g, o, e, fun j x hj => ?_⟩
    rw [World.cell?_setCell_other (a := p) (b := ⟨g, o + j, none⟩) (h := fun e2 => hp ⟨g, o, none⟩ e (by rw [e2]))]
    exact h j x hj
theorem tl_some {s : ByteArray} (h : ¬ s = ⟨#[]⟩) : s.toList.isEmpty = false := by
  rw [Lib.toList_data]
  cases hs : s.data.toList with
  | nil => exact absurd (ByteArray.ext (Array.toList_inj.1 hs)) h
  | cons a l => rfl
end Go.Proofs.YtfhhmajkacjbgaaDoor
