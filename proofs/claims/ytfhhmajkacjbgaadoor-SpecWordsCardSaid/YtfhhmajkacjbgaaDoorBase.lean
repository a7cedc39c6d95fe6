/-
  Rows of bytes in memory; what a text is when it is quoted. No call.
-/
import Derived.Test.YtfhhmajkacjbgaaDoorRows
import Derived.WalkKit
import Derived.ProofKit
import Derived.OpenShut
import Derived.ShutString
import Derived.WalkSpells
import Derived.WalkLawsBesides
import Derived.LoopTactic
import Derived.Lib.Hide
import Derived.Below
import Derived.Deep.OwnRows
import Derived.Deep.AppendLies
import Derived.Laws.IdiomStrings
import Derived.Laws.MakeOwn
import Derived.Deep.QuietTactic
import Derived.BigQuiet
import Derived.Deep.LoopGhost
import Derived.Deep.Draws
namespace Go.Proofs.YtfhhmajkacjbgaaDoor
open Go.ChangeShapes Go.WideShapes Go.ChangeAt Go.RowKit

/-- Of what was there nothing has turned; there may be new blocks. -/
def Fresh (w w' : World) : Prop := Below w.heap.size w w'
theorem Fresh.refl (w : World) : Fresh w w := Below.refl _ _
theorem Fresh.trans {a b c : World} (h : Fresh a b) (k : Fresh b c) : Fresh a c := Below.trans h (Below.mono k h.size)
theorem Fresh.alloc {a b : World} (h : Fresh a b) (o : Obj) : Fresh a (b.alloc o) := Below.alloc h h.size o
theorem Fresh.setCell {a b : World} (h : Fresh a b) {p : Addr} (hp : a.heap.size ≤ p.block) (u : Value) : Fresh a (b.setCell p u) := Below.setCell h hp u
theorem Fresh.drew {a b : World} (h : Fresh a b) : Fresh a b.drew := Below.drew h
theorem Fresh.below {a b c : World} {B : Nat} (h : Fresh a b) (k : Below B b c) (hB : a.heap.size ≤ B) : Fresh a c := Below.trans h (Below.mono k hB)
theorem Fresh.grown {a b c : World} (h : Fresh a b) {row : Option Nat} (hg : b.grownBy c row) (hr : ∀ g, row = some g → a.heap.size ≤ g) : Fresh a c := Below.grown h hg h.size hr
theorem lt_of_at {w : World} {k : Nat} {o : Obj} (hk : w.heap[k]? = some o) : k < w.heap.size := (Array.getElem?_eq_some_iff.1 hk).1
theorem at_alloc {w : World} {k : Nat} {o p : Obj} (hk : w.heap[k]? = some o) : (w.alloc p).heap[k]? = some o := by
  rw [Below.heap_alloc _ _ _ (lt_of_at hk)]; exact hk
theorem at_new (w : World) (o : Obj) : (w.alloc o).heap[w.heap.size]? = some o := by
  show (w.heap.push o)[w.heap.size]? = _
  simp
theorem cell_of_at {w : World} {b : Nat} {cs : Array Value} {t : TypeId} {z : Nat × Nat} (h : w.heap[b]? = some (.cells cs t z)) {i : Nat} {v : Value} (hi : cs[i]? = some v) : w.cell? ⟨b, i, none⟩ = some v := by
  simp [World.cell?, h, hi]
theorem addr_add0 (b n : Nat) : (⟨b, 0, none⟩ : Addr).add n = ⟨b, n, none⟩ := by
  unfold Addr.add
  split <;> simp_all
theorem grown_set (w : World) (g o : Nat) (u : Value) : w.grownBy (w.setCell ⟨g, o, none⟩ u) (some g) :=
  ⟨rfl, rfl, rfl, by simp [World.setCell], fun k _ hk => Below.heap_setCell _ _ _ _ (fun e => hk (by rw [e]))⟩
theorem info5 : (Tryd.prog.info? 5).map (fun i => (i.zero, i.size, i.bytes)) = some (some (.int .u8 0), 1, 1) := by kernel_rfl
theorem ret_int {k : IntKind} {a b : Int} (h : a = b) : Ending.returned (.int k a) = .returned (.int k b) := by rw [h]
theorem ret_bool {a b : Bool} (h : a = b) : Ending.returned (.bool a) = .returned (.bool b) := by rw [h]
theorem ret_string {a b : ByteArray} (h : a = b) : Ending.returned (.string a) = .returned (.string b) := by rw [h]

/-! ### rows of bytes -/
/-- Bytes as they lie in a row's cells. -/
def vals (l : List UInt8) : List Value := l.map fun c => .int .u8 (c.toNat : Int)
theorem vals_length (l : List UInt8) : (vals l).length = l.length := by simp [vals]
theorem vals_append (l m : List UInt8) : vals (l ++ m) = vals l ++ vals m := by simp [vals]
theorem vals_one (l : List UInt8) : ∀ u ∈ vals l, u.oneCell' = true := fun u hu => by
  unfold vals at hu
  obtain ⟨c, _, rfl⟩ := List.mem_map.1 hu
  rfl
theorem vals_get (l : List UInt8) (j : Nat) (u : Value) (h : (vals l)[j]? = some u) : ∃ hj : j < l.length, u = .int .u8 (l[j].toNat : Int) := by
  unfold vals at h
  rw [List.getElem?_map] at h
  by_cases hj : j < l.length
  · rw [List.getElem?_eq_getElem hj] at h
    exact ⟨hj, (Option.some.inj h).symm⟩
  · rw [List.getElem?_eq_none (by omega)] at h
    cases h
/-- A row of bytes that the call owns, from block B on. -/
def Buf (w : World) (B : Nat) (v : Value) (l : List UInt8) : Prop := w.ownsRow B 5 1 v l.length (vals l)
theorem Buf.lt {w : World} {B : Nat} {v : Value} {l : List UInt8} (h : Buf w B v l) : ∀ g, v.ownBlock = some g → B ≤ g ∧ g < w.heap.size := World.ownsRow.lt h
theorem Buf.alloc {w : World} {B : Nat} {v : Value} {l : List UInt8} (h : Buf w B v l) (o : Obj) : Buf (w.alloc o) B v l := World.ownsRow.alloc h o
theorem Buf.drew {w : World} {B : Nat} {v : Value} {l : List UInt8} (h : Buf w B v l) : Buf w.drew B v l := h
theorem Buf.kept {w w' : World} {B : Nat} {v : Value} {l : List UInt8} {row : Option Nat} (h : Buf w B v l) (hg : w.grownBy w' row) (hne : v.ownBlock = none ∨ v.ownBlock ≠ row) : Buf w' B v l := World.ownsRow.kept h hg hne
theorem Buf.fresh {w w' : World} {B : Nat} {v : Value} {l : List UInt8} (h : Buf w B v l) (hf : Fresh w w') : Buf w' B v l := by
  refine World.ownsRow.kept (row := none) h ⟨hf.os, hf.tape, hf.output, hf.size, fun k hk _ => hf.block k hk⟩ ?_
  rcases h' : v.ownBlock with _ | g
  · exact .inl rfl
  · exact .inr (by simp)
/-- What an append leaves behind. -/
theorem Buf.more {w' : World} {B : Nat} {v : Value} {l m : List UInt8} {k : Nat} (h : w'.ownsRow B 5 1 v (l.length + k) (vals l ++ vals m)) (hk : m.length = k) : Buf w' B v (l ++ m) := by
  unfold Buf
  rw [vals_append, List.length_append, hk]
  exact h
/-- 'string(b)' of such a row. -/
theorem Buf.text {w : World} {B : Nat} {g : Nat} {c n : Nat} {l : List UInt8} (h : Buf w B (.slice (some ⟨g, 0, none⟩) n c) l) : n = l.length ∧ (convert 101 9 (.slice (some ⟨g, 0, none⟩) n c)).run Tryd.prog w = .ok (.string ⟨l.toArray⟩) w := by
  have hn : n = l.length := by
    obtain ⟨_, ⟨h1, _⟩ | ⟨g', cap, cur, h1, _⟩⟩ := h
    · cases h1
    · injection h1
  subst hn
  refine ⟨rfl, run_convert_bytes_back (P := Tryd.prog) w 101 9 5 ⟨g, 0, none⟩ c l Tryd.underlying101 Tryd.underlying5 Tryd.underlying9 (fun j hj => ?_)⟩
  exact World.ownsRow.cells h rfl j _ (by unfold vals; rw [List.getElem?_map, List.getElem?_eq_getElem hj]; rfl)
theorem text_nil (w : World) : (convert 101 9 (.slice none 0 0)).run Tryd.prog w = .ok (.string ⟨#[]⟩) w := by
  rw [run_convert_bytes_string (P := Tryd.prog) w 101 9 5 none 0 0 Tryd.underlying101 Tryd.underlying5 Tryd.underlying9]
  rfl

/-! ### what is quoted -/
def hexB (n : Nat) : UInt8 := UInt8.ofNat (if n < 10 then 48 + n else 87 + n)
/-- A byte, between quotes. -/
def qB (c : UInt8) : List UInt8 :=
  if c = 34 ∨ c = 92 then [92, c] else if c = 10 then [92, 110] else if c = 13 then [92, 114] else if c = 9 then [92, 116] else if c = 8 then [92, 98] else if c = 12 then [92, 102]
  else if c.toNat < 32 then [92, 117, 48, 48, hexB (c.toNat / 16), hexB (c.toNat % 16)] else [c]
def qL (l : List UInt8) : List UInt8 := l.flatMap qB
def quoted (l : List UInt8) : List UInt8 := 34 :: (qL l ++ [34])
theorem qL_snoc (l : List UInt8) (c : UInt8) : qL (l ++ [c]) = qL l ++ qB c := by simp [qL]
theorem qB_len (c : UInt8) : (qB c).length ≤ 6 := by
  unfold qB
  repeat' split
  all_goals simp
theorem qL_len (l : List UInt8) : (qL l).length ≤ 6 * l.length := by
  induction l with
  | nil => simp [qL]
  | cons c l ih =>
    have := qB_len c
    have e : qL (c :: l) = qB c ++ qL l := by simp [qL]
    rw [e, List.length_append, List.length_cons]
    omega
theorem take_snoc (s : ByteArray) (k : Nat) (h : k < s.size) : s.data.toList.take (k + 1) = s.data.toList.take k ++ [s[k]] := by
  rw [List.take_succ_eq_append_getElem (by simpa using h)]; rfl
theorem c_of {c : UInt8} {n : Nat} (h : c.toNat = n) : c = UInt8.ofNat n := by
  rw [← h]; simp
end Go.Proofs.YtfhhmajkacjbgaaDoor
