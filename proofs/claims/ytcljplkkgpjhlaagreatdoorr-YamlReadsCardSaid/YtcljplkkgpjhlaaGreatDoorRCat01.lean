/-
  Parts of the proof: Base Math Remark Lines VMath.
-/
import Derived.Test.YtcljplkkgpjhlaaGreatDoorRRows
import Derived.WalkKit
import Derived.ProofKit
import Derived.OpenShut
import Derived.ShutString
import Derived.WalkSpells
import Derived.WalkLawsBesides
import Derived.LoopTactic
import Derived.Lib.Hide
import Derived.Below
import Derived.Deep.OwnRows
import Derived.Deep.AppendLies
import Derived.Laws.IdiomStrings
import Derived.Laws.MakeOwn
import Derived.Deep.QuietTactic
import Derived.BigQuiet
import Derived.Deep.LoopGhost
import Derived.Deep.Draws
import Derived.Lib.TrimByte
import Derived.Lib.Bytealg
import Derived.Deep.DeepCutAuto
import Derived.Deep.CutRange
import Derived.Deep.CutBlock
import Derived.RegionTactic
import Derived.Deep.DrawnRows
import Derived.Lib.ValidLaws
set_option maxRecDepth 100000
set_option maxHeartbeats 8000000
namespace Go.Proofs.YtcljplkkgpjhlaaGreatDoorR
section
open Go.ChangeShapes Go.WideShapes Go.ChangeAt Go.RowKit
def Fresh (w w' : World) : Prop := Below w.heap.size w w'
theorem Fresh.refl (w : World) : Fresh w w := Below.refl _ _
theorem Fresh.trans {a b c : World} (h : Fresh a b) (k : Fresh b c) : Fresh a c := Below.trans h (Below.mono k h.size)
theorem Fresh.alloc {a b : World} (h : Fresh a b) (o : Obj) : Fresh a (b.alloc o) := Below.alloc h h.size o
theorem Fresh.setCell {a b : World} (h : Fresh a b) {p : Addr} (hp : a.heap.size ≤ p.block) (u : Value) : Fresh a (b.setCell p u) := Below.setCell h hp u
theorem Fresh.drew {a b : World} (h : Fresh a b) : Fresh a b.drew := Below.drew h
theorem Fresh.below {a b c : World} {B : Nat} (h : Fresh a b) (k : Below B b c) (hB : a.heap.size ≤ B) : Fresh a c := Below.trans h (Below.mono k hB)
theorem Fresh.grown {a b c : World} (h : Fresh a b) {row : Option Nat} (hg : b.grownBy c row) (hr : ∀ g, row = some g → a.heap.size ≤ g) : Fresh a c := Below.grown h hg h.size hr
theorem lt_of_at {w : World} {k : Nat} {o : Obj} (hk : w.heap[k]? = some o) : k < w.heap.size := (Array.getElem?_eq_some_iff.1 hk).1
theorem at_alloc {w : World} {k : Nat} {o p : Obj} (hk : w.heap[k]? = some o) : (w.alloc p).heap[k]? = some o := by
  rw [Below.heap_alloc _ _ _ (lt_of_at hk)]; exact hk
theorem at_new (w : World) (o : Obj) : (w.alloc o).heap[w.heap.size]? = some o := by
  show (w.heap.push o)[w.heap.size]? = _
  simp
theorem cell_of_at {w : World} {b : Nat} {cs : Array Value} {t : TypeId} {z : Nat × Nat} (h : w.heap[b]? = some (.cells cs t z)) {i : Nat} {v : Value} (hi : cs[i]? = some v) : w.cell? ⟨b, i, none⟩ = some v := by
  simp [World.cell?, h, hi]
theorem addr_add0 (b n : Nat) : (⟨b, 0, none⟩ : Addr).add n = ⟨b, n, none⟩ := by
  unfold Addr.add
  split <;> simp_all
theorem grown_set (w : World) (g o : Nat) (u : Value) : w.grownBy (w.setCell ⟨g, o, none⟩ u) (some g) :=
  ⟨rfl, rfl, rfl, by simp [World.setCell], fun k _ hk => Below.heap_setCell _ _ _ _ (fun e => hk (by rw [e]))⟩
theorem info5 : (Tryz.prog.info? 5).map (fun i => (i.zero, i.size, i.bytes)) = some (some (.int .u8 0), 1, 1) := by kernel_rfl
theorem ret_int {k : IntKind} {a b : Int} (h : a = b) : Ending.returned (.int k a) = .returned (.int k b) := by rw [h]
theorem ret_bool {a b : Bool} (h : a = b) : Ending.returned (.bool a) = .returned (.bool b) := by rw [h]
theorem ret_string {a b : ByteArray} (h : a = b) : Ending.returned (.string a) = .returned (.string b) := by rw [h]
def vals (l : List UInt8) : List Value := l.map fun c => .int .u8 (c.toNat : Int)
theorem vals_length (l : List UInt8) : (vals l).length = l.length := by simp [vals]
theorem vals_append (l m : List UInt8) : vals (l ++ m) = vals l ++ vals m := by simp [vals]
theorem vals_one (l : List UInt8) : ∀ u ∈ vals l, u.oneCell' = true := fun u hu => by
  unfold vals at hu
  obtain ⟨c, _, rfl⟩ := List.mem_map.1 hu
  rfl
def Buf (w : World) (B : Nat) (v : Value) (l : List UInt8) : Prop := w.ownsRow B 5 1 v l.length (vals l)
theorem Buf.lt {w : World} {B : Nat} {v : Value} {l : List UInt8} (h : Buf w B v l) : ∀ g, v.ownBlock = some g → B ≤ g ∧ g < w.heap.size := World.ownsRow.lt h
theorem Buf.alloc {w : World} {B : Nat} {v : Value} {l : List UInt8} (h : Buf w B v l) (o : Obj) : Buf (w.alloc o) B v l := World.ownsRow.alloc h o
theorem Buf.drew {w : World} {B : Nat} {v : Value} {l : List UInt8} (h : Buf w B v l) : Buf w.drew B v l := h
theorem Buf.kept {w w' : World} {B : Nat} {v : Value} {l : List UInt8} {row : Option Nat} (h : Buf w B v l) (hg : w.grownBy w' row) (hne : v.ownBlock = none ∨ v.ownBlock ≠ row) : Buf w' B v l := World.ownsRow.kept h hg hne
theorem Buf.fresh {w w' : World} {B : Nat} {v : Value} {l : List UInt8} (h : Buf w B v l) (hf : Fresh w w') : Buf w' B v l := by
  refine World.ownsRow.kept (row := none) h ⟨hf.os, hf.tape, hf.output, hf.size, fun k hk _ => hf.block k hk⟩ ?_
  rcases h' : v.ownBlock with _ | g
  · exact .inl rfl
  · exact .inr (by simp)
theorem Buf.more {w' : World} {B : Nat} {v : Value} {l m : List UInt8} {k : Nat} (h : w'.ownsRow B 5 1 v (l.length + k) (vals l ++ vals m)) (hk : m.length = k) : Buf w' B v (l ++ m) := by
  unfold Buf
  rw [vals_append, List.length_append, hk]
  exact h
theorem Buf.text {w : World} {B : Nat} {g : Nat} {c n : Nat} {l : List UInt8} (h : Buf w B (.slice (some ⟨g, 0, none⟩) n c) l) : n = l.length ∧ (convert 145 9 (.slice (some ⟨g, 0, none⟩) n c)).run Tryz.prog w = .ok (.string ⟨l.toArray⟩) w := by
  have hn : n = l.length := by
    obtain ⟨_, ⟨h1, _⟩ | ⟨g', cap, cur, h1, _⟩⟩ := h
    · cases h1
    · injection h1
  subst hn
  refine ⟨rfl, run_convert_bytes_back (P := Tryz.prog) w 145 9 5 ⟨g, 0, none⟩ c l Tryz.underlying145 Tryz.underlying5 Tryz.underlying9 (fun j hj => ?_)⟩
  exact World.ownsRow.cells h rfl j _ (by unfold vals; rw [List.getElem?_map, List.getElem?_eq_getElem hj]; rfl)
theorem text_nil (w : World) : (convert 145 9 (.slice none 0 0)).run Tryz.prog w = .ok (.string ⟨#[]⟩) w := by
  rw [run_convert_bytes_string (P := Tryz.prog) w 145 9 5 none 0 0 Tryz.underlying145 Tryz.underlying5 Tryz.underlying9]
  rfl
def hexB (n : Nat) : UInt8 := UInt8.ofNat (if n < 10 then 48 + n else 87 + n)
def qB (c : UInt8) : List UInt8 :=
  if c = 34 ∨ c = 92 then [92, c] else if c = 10 then [92, 110] else if c = 13 then [92, 114] else if c = 9 then [92, 116] else if c = 8 then [92, 98] else if c = 12 then [92, 102]
  else if c.toNat < 32 then [92, 117, 48, 48, hexB (c.toNat / 16), hexB (c.toNat % 16)] else [c]
def qL (l : List UInt8) : List UInt8 := l.flatMap qB
def quoted (l : List UInt8) : List UInt8 := 34 :: (qL l ++ [34])
theorem qL_snoc (l : List UInt8) (c : UInt8) : qL (l ++ [c]) = qL l ++ qB c := by simp [qL]
theorem qB_len (c : UInt8) : (qB c).length ≤ 6 := by
  unfold qB
  repeat' split
  all_goals simp
theorem qL_len (l : List UInt8) : (qL l).length ≤ 6 * l.length := by
  induction l with
  | nil => simp [qL]
  | cons c l ih =>
    have := qB_len c
    have e : qL (c :: l) = qB c ++ qL l := by simp [qL]
    rw [e, List.length_append, List.length_cons]
    omega
theorem take_snoc (s : ByteArray) (k : Nat) (h : k < s.size) : s.data.toList.take (k + 1) = s.data.toList.take k ++ [s[k]] := by
  rw [List.take_succ_eq_append_getElem (by simpa using h)]; rfl
theorem c_of {c : UInt8} {n : Nat} (h : c.toNat = n) : c = UInt8.ofNat n := by
  rw [← h]; simp
end
section
def lnsA : List UInt8 → List UInt8 → List (List UInt8)
  | cur, [] => [cur]
  | cur, c :: r => if c = 10 then cur :: lnsA [] r else lnsA (cur ++ [c]) r
theorem lnsA_none : ∀ (a cur : List UInt8), (∀ c ∈ a, c ≠ 10) → lnsA cur a = [cur ++ a]
  | [], cur, _ => by simp [lnsA]
  | c :: r, cur, h => by
    rw [lnsA, if_neg (h c (by simp)), lnsA_none r _ (fun d hd => h d (by simp [hd]))]
    simp
theorem lnsA_cut : ∀ (a b cur : List UInt8), (∀ c ∈ a, c ≠ 10) → lnsA cur (a ++ 10 :: b) = (cur ++ a) :: lnsA [] b
  | [], b, cur, _ => by simp [lnsA]
  | c :: r, b, cur, h => by
    rw [List.cons_append, lnsA, if_neg (h c (by simp)), lnsA_cut r b _ (fun d hd => h d (by simp [hd]))]
    simp
theorem lnsA_len (cur l : List UInt8) : (lnsA cur l).length ≤ l.length + 1 := by
  induction l generalizing cur with
  | nil => simp [lnsA]
  | cons c r ih =>
    rw [lnsA]
    split
    · have := ih []
      simp; omega
    · have := ih (cur ++ [c])
      simp; omega
theorem indexByte_none : ∀ (l : List UInt8) (c : UInt8), Go.Lib.indexByte l c = -1 → ∀ d ∈ l, d ≠ c
  | [], _, _, d, hd => by simp at hd
  | b :: l, c, h, d, hd => by
    have ge := Go.Lib.indexByte_ge l c
    unfold Go.Lib.indexByte at h
    by_cases hb : (b == c) = true
    · rw [if_pos hb] at h; omega
    · rw [if_neg hb] at h
      by_cases hx : (Go.Lib.indexByte l c == -1) = true
      · rcases List.mem_cons.1 hd with rfl | hd
        · simpa using hb
        · exact indexByte_none l c (by simpa using hx) d hd
      · rw [if_neg hx] at h
        have : Go.Lib.indexByte l c = -2 := by omega
        omega
theorem indexByte_some : ∀ (l : List UInt8) (c : UInt8) (k : Nat), Go.Lib.indexByte l c = k → k < l.length ∧ l = l.take k ++ c :: l.drop (k + 1) ∧ ∀ d ∈ l.take k, d ≠ c
  | [], _, k, h => by simp [Go.Lib.indexByte] at h
  | b :: l, c, k, h => by
    unfold Go.Lib.indexByte at h
    by_cases hb : (b == c) = true
    · rw [if_pos hb] at h
      obtain rfl : k = 0 := by omega
      have : b = c := by simpa using hb
      subst this
      simp
    · rw [if_neg hb] at h
      by_cases hx : (Go.Lib.indexByte l c == -1) = true
      · rw [if_pos hx] at h; omega
      · rw [if_neg hx] at h
        have ge := Go.Lib.indexByte_ge l c
        have hx' : Go.Lib.indexByte l c ≠ -1 := by simpa using hx
        obtain ⟨j, rfl⟩ : ∃ j, k = j + 1 := ⟨k - 1, by omega⟩
        obtain ⟨h1, h2, h3⟩ := indexByte_some l c j (by omega)
        refine ⟨by simp; omega, ?_, ?_⟩
        · simp only [List.take_succ_cons, List.drop_succ_cons, List.cons_append]
          rw [← h2]
        · intro d hd
          rw [List.take_succ_cons] at hd
          rcases List.mem_cons.1 hd with rfl | hd
          · simpa using hb
          · exact h3 d hd
theorem indexByte_cases (l : List UInt8) (c : UInt8) : Go.Lib.indexByte l c = -1 ∨ ∃ k : Nat, Go.Lib.indexByte l c = k := by
  have := Go.Lib.indexByte_ge l c
  by_cases h : Go.Lib.indexByte l c = -1
  · exact .inl h
  · exact .inr ⟨(Go.Lib.indexByte l c).toNat, by omega⟩
def remA : Bool → Bool → Bool → List UInt8 → Option Nat
  | q, _, _, [] => if q then none else some 0
  | q, s, b, c :: r =>
    if s then (remA q false (c == 32) r).map (· + 1)
    else if c = 92 then (remA q q (c == 32) r).map (· + 1)
    else if c = 34 then (remA (!q) false (c == 32) r).map (· + 1)
    else if c = 35 ∧ q = false ∧ b = true then some 0
    else (remA q false (c == 32) r).map (· + 1)
def rem (l : List UInt8) : Option Nat := remA false false true l
def blank (l : List UInt8) (i : Nat) : Bool := i == 0 || l.getD (i - 1) 0 == 32
def RemAt (l : List UInt8) (q s : Bool) (i : Nat) : Prop := rem l = (remA q s (blank l i) (l.drop i)).map (· + i)
theorem remAt_zero (l : List UInt8) : RemAt l false false 0 := by
  unfold RemAt rem blank
  simp
theorem blank_succ (l : List UInt8) (i : Nat) (h : i < l.length) : blank l (i + 1) = (l[i] == 32) := by
  unfold blank
  simp [List.getD_eq_getElem?_getD, h]
theorem map_add (o : Option Nat) (i : Nat) : (o.map (· + 1)).map (· + i) = o.map (· + (i + 1)) := by
  cases o with
  | none => rfl
  | some a => simp; omega
theorem remAt_skip {l : List UInt8} {q : Bool} {i : Nat} (h : i < l.length) (H : RemAt l q true i) : RemAt l q false (i + 1) := by
  unfold RemAt at *
  rw [H, List.drop_eq_getElem_cons h, remA, if_pos rfl, map_add, blank_succ l i h]
theorem remAt_back {l : List UInt8} {q : Bool} {i : Nat} (h : i < l.length) (e : l[i] = 92) (H : RemAt l q false i) : RemAt l q q (i + 1) := by
  unfold RemAt at *
  rw [H, List.drop_eq_getElem_cons h, remA, if_neg (by simp), if_pos e, map_add, blank_succ l i h]
theorem remAt_quote {l : List UInt8} {q : Bool} {i : Nat} (h : i < l.length) (e : l[i] = 34) (H : RemAt l q false i) : RemAt l (!q) false (i + 1) := by
  unfold RemAt at *
  rw [H, List.drop_eq_getElem_cons h, remA, if_neg (by simp), if_neg (by rw [e]; decide), if_pos e, map_add, blank_succ l i h]
theorem remAt_hash {l : List UInt8} {i : Nat} (h : i < l.length) (e : l[i] = 35) (hb : blank l i = true) (H : RemAt l false false i) : rem l = some i := by
  unfold RemAt at *
  rw [H, List.drop_eq_getElem_cons h, remA, if_neg (by simp), if_neg (by rw [e]; decide), if_neg (by rw [e]; decide), if_pos ⟨e, rfl, hb⟩]
  simp
theorem remAt_other {l : List UInt8} {q : Bool} {i : Nat} (h : i < l.length) (e1 : l[i] ≠ 92) (e2 : l[i] ≠ 34) (e3 : ¬ (l[i] = 35 ∧ q = false ∧ blank l i = true)) (H : RemAt l q false i) : RemAt l q false (i + 1) := by
  unfold RemAt at *
  rw [H, List.drop_eq_getElem_cons h, remA, if_neg (by simp), if_neg e1, if_neg e2, if_neg e3, map_add, blank_succ l i h]
theorem remAt_end {l : List UInt8} {q s : Bool} {i : Nat} (h : l.length ≤ i) (hi : i = l.length) (H : RemAt l q s i) : rem l = if q then none else some l.length := by
  unfold RemAt at *
  subst hi
  rw [H, List.drop_eq_nil_of_le h, remA]
  cases q <;> simp
theorem remAt_over {l : List UInt8} {i : Nat} (h : l.length ≤ i) (H : RemAt l true false i) : rem l = none := by
  unfold RemAt at *
  rw [H, List.drop_eq_nil_of_le h, remA]
  simp
theorem remAt_two {l : List UInt8} {i : Nat} (h : i < l.length) (e : l[i] = 92) (H : RemAt l true false i) : RemAt l true false (i + 2) := by
  have H1 := remAt_back h e H
  by_cases h1 : i + 1 < l.length
  · exact remAt_skip h1 H1
  · unfold RemAt at *
    rw [List.drop_eq_nil_of_le (by omega), remA] at H1
    rw [List.drop_eq_nil_of_le (by omega), remA, H1]
    simp
structure Rw where
  line : Nat
  indent : Nat
  dash : Bool
  text : List UInt8
def dashB (l : List UInt8) : Bool := l == [45] || [45, 32].isPrefixOf l
def rowsS (n : Nat) : Nat → List UInt8 → List Rw
  | _, [] => []
  | a, c :: r => if c = 32 then rowsS n (a + 1) r
    else if dashB (c :: r) = true then ⟨n, a, true, []⟩ :: rowsS n (a + 1) r
    else [⟨n, a, false, c :: r⟩]
theorem rowsS_dash (n a : Nat) (l : List UInt8) (h : a < l.length) (e : dashB (l.drop a) = true) : rowsS n a (l.drop a) = ⟨n, a, true, []⟩ :: rowsS n (a + 1) (l.drop (a + 1)) := by
  have hd := List.drop_eq_getElem_cons h
  have hc : l[a] ≠ 32 := by
    intro hc
    rw [hd, hc] at e
    simp [dashB] at e
  rw [hd, rowsS, if_neg hc, ← hd, if_pos e]
theorem rowsS_text (n a : Nat) (l : List UInt8) (h : a < l.length) (hc : l[a] ≠ 32) (e : dashB (l.drop a) = false) : rowsS n a (l.drop a) = [⟨n, a, false, l.drop a⟩] := by
  have hd := List.drop_eq_getElem_cons h
  rw [hd, rowsS, if_neg hc, ← hd, e, if_neg (by simp)]
theorem rowsS_end (n a : Nat) (l : List UInt8) (h : l.length ≤ a) : rowsS n a (l.drop a) = [] := by
  rw [List.drop_eq_nil_of_le h, rowsS]
theorem rowsS_len (n : Nat) : ∀ (l : List UInt8) (a : Nat), (rowsS n a l).length ≤ l.length
  | [], a => by simp [rowsS]
  | c :: r, a => by
    have := rowsS_len n r (a + 1)
    rw [rowsS]
    split
    · simp; omega
    · split
      · simp; omega
      · simp
def blanks (l : List UInt8) : Nat := (l.takeWhile (· == 32)).length
theorem blanks_le (l : List UInt8) : blanks l ≤ l.length := by
  unfold blanks
  exact (List.takeWhile_prefix _).length_le
theorem trimLeft_len (l : List UInt8) : (Go.Lib.trimLeftB l 32).length = l.length - blanks l := by
  unfold Go.Lib.trimLeftB blanks
  have := congrArg List.length (List.takeWhile_append_dropWhile (p := (· == (32 : UInt8))) (l := l))
  rw [List.length_append] at this
  omega
theorem rowsS_blanks (n : Nat) : ∀ (l : List UInt8) (a : Nat), rowsS n a l = rowsS n (a + blanks l) (l.drop (blanks l))
  | [], a => by simp [blanks]
  | c :: r, a => by
    by_cases hc : c = 32
    · subst hc
      have e : blanks (32 :: r) = blanks r + 1 := by simp [blanks]
      rw [rowsS, if_pos rfl, rowsS_blanks n r (a + 1), e, List.drop_succ_cons]
      congr 1
      omega
    · have e : blanks (c :: r) = 0 := by simp [blanks, hc]
      rw [e]; simp
theorem blanks_head (l : List UInt8) (h : blanks l < l.length) : (l.drop (blanks l))[0]? ≠ some 32 := by
  induction l with
  | nil => simp [blanks] at h
  | cons c r ih =>
    by_cases hc : c = 32
    · subst hc
      have e : blanks (32 :: r) = blanks r + 1 := by simp [blanks]
      rw [e] at h ⊢
      rw [List.drop_succ_cons]
      exact ih (by simpa using h)
    · have e : blanks (c :: r) = 0 := by simp [blanks, hc]
      rw [e]
      simpa using hc
def lowB (l : List UInt8) : Bool := l.any fun c => decide (c.toNat < 32)
variable (V : List UInt8 → Bool)
def badL (l : List UInt8) : Bool := lowB l || !V l
def cutA : Nat → List (List UInt8) → List Rw → List Rw × Nat × Int
  | _, [], acc => (acc, 0, 0)
  | n, l :: ls, acc => if badL V l = true then ([], n, 10) else match rem l with
    | none => ([], n, 11)
    | some k => cutA (n + 1) ls (acc ++ rowsS n 0 (Go.Lib.trimRightB (l.take k) 32))
theorem cutA_bad {n : Nat} {l : List UInt8} {ls : List (List UInt8)} {acc : List Rw} (h : badL V l = true) : cutA V n (l :: ls) acc = ([], n, 10) := by
  rw [cutA, if_pos h]
theorem cutA_end {n : Nat} {l : List UInt8} {ls : List (List UInt8)} {acc : List Rw} (h : badL V l = false) (hr : rem l = none) : cutA V n (l :: ls) acc = ([], n, 11) := by
  rw [cutA, if_neg (by rw [h]; simp), hr]
theorem cutA_step {n : Nat} {l : List UInt8} {ls : List (List UInt8)} {acc : List Rw} {k : Nat} (h : badL V l = false) (hr : rem l = some k) : cutA V n (l :: ls) acc = cutA V (n + 1) ls (acc ++ rowsS n 0 (Go.Lib.trimRightB (l.take k) 32)) := by
  rw [cutA, if_neg (by rw [h]; simp), hr]
def cutL (l : List UInt8) : List Rw × Nat × Int := cutA V 0 (lnsA [] l) []
end
section
theorem lowB_step (l : List UInt8) (i : Nat) (h : i < l.length) (hc : 32 ≤ l[i].toNat) (H : lowB l = lowB (l.drop i)) : lowB l = lowB (l.drop (i + 1)) := by
  rw [H, List.drop_eq_getElem_cons h, lowB, lowB, List.any_cons, decide_eq_false (by omega), Bool.false_or]
theorem lowB_hit (l : List UInt8) (i : Nat) (h : i < l.length) (hc : l[i].toNat < 32) (H : lowB l = lowB (l.drop i)) : lowB l = true := by
  rw [H, List.drop_eq_getElem_cons h, lowB, List.any_cons, decide_eq_true hc, Bool.true_or]
theorem lowB_end (l : List UInt8) (i : Nat) (h : l.length ≤ i) (H : lowB l = lowB (l.drop i)) : lowB l = false := by
  rw [H, List.drop_eq_nil_of_le h]; rfl
theorem badL_low (V : List UInt8 → Bool) {l : List UInt8} (h : lowB l = true) : badL V l = true := by
  rw [badL, h]; rfl
theorem badL_of (V : List UInt8 → Bool) {l : List UInt8} (h : lowB l = false) : badL V l = !V l := by
  rw [badL, h]; rfl
end
section
open Go.ChangeShapes Go.WideShapes Go.ChangeAt Go.RowKit
attribute [local go_sem ↓] Go.wp_at_zero Go.wp_at_succ
variable {w : World}
theorem eqB {c : UInt8} {n : Nat} (h : c = UInt8.ofNat n) (hn : n < 256) : ((c.toNat : Int) == (n : Int)) = true := by
  subst h
  rw [beq_iff_eq, UInt8.toNat_ofNat']
  omega
theorem neB {c : UInt8} {n : Nat} (h : c ≠ UInt8.ofNat n) : ((c.toNat : Int) == (n : Int)) = false := by
  rw [beq_eq_false_iff_ne]
  intro e
  apply h
  have : c.toNat = n := by omega
  rw [← this]; simp
def remRes (s : ByteArray) : Option Nat → Ending
  | some k => .returned (.tuple #[.string (s.extract 0 k), .bool true])
  | none => .returned (.tuple #[.string s, .bool false])
theorem extract_all (s : ByteArray) : s.extract 0 s.size = s := by
  simp
theorem rem_any (s : ByteArray) (w : World) (hs : s.size ≤ 1000000) : Calls Tryz.prog 50 #[.string s] w fun e w' => e = remRes s (rem s.data.toList) ∧ w = w' := by
  have hll : s.data.toList.length = s.size := by simp
  have HLL := Lib.hid hll
  clear hll
  go_enter Tryz.func50, Tryz.ntmps50
  go_wp2
  go_loop [4, 5, 10] (fun a4 a5 a10 => ∃ (q sk : Bool) (k : Nat), k ≤ s.size ∧ a4 = .bool q ∧ a5 = .bool sk ∧ a10 = .int .i64 k ∧ Hid (RemAt s.data.toList q sk k)) (fun _ _ a10 => s.size - (intOf a10).toNat)
  case atStart => exact ⟨false, false, 0, by omega, rfl, rfl, rfl, remAt_zero _⟩
  case round =>
    obtain ⟨q, sk, i, hi, rfl, rfl, rfl, HI⟩ := hrel
    by_cases hlt : i < s.size
    · have HL' : Hid (i < s.data.toList.length) := by rw [Hid, HLL.out]; exact hlt
      have HB : Hid (s.data.toList[i]'HL'.out = s[i]'hlt) := rfl
      cases sk with
      | true =>
        have HN := Lib.hid (remAt_skip HL'.out HI.out)
        go_wp2
        all_goals first | (exfalso; omega) | go_round
        all_goals first
          | exact ⟨_, _, i + 1, by omega, rfl, rfl, by simp, HN.out⟩
          | (simp [intOf]; omega)
      | false =>
        by_cases c92 : s[i] = 92
        · have e92 : ((s[i].toNat : Int) == 92) = true := eqB (n := 92) c92 (by omega)
          have HN := Lib.hid (remAt_back HL'.out (HB.out.trans c92) HI.out)
          clear c92
          go_wp2
          all_goals first | (exfalso; omega) | go_round
          all_goals first
            | exact ⟨_, _, i + 1, by omega, rfl, rfl, by simp, HN.out⟩
            | (simp [intOf]; omega)
        have e92 : ((s[i].toNat : Int) == 92) = false := neB (n := 92) c92
        by_cases c34 : s[i] = 34
        · have e34 : ((s[i].toNat : Int) == 34) = true := eqB (n := 34) c34 (by omega)
          have HN := Lib.hid (remAt_quote HL'.out (HB.out.trans c34) HI.out)
          clear c34 c92
          cases q <;> go_wp2
          all_goals first | (exfalso; omega) | go_round
          all_goals first
            | exact ⟨_, _, i + 1, by omega, rfl, rfl, by simp, HN.out⟩
            | (simp [intOf]; omega)
        have e34 : ((s[i].toNat : Int) == 34) = false := neB (n := 34) c34
        by_cases c35 : s[i] = 35
        · have e35 : ((s[i].toNat : Int) == 35) = true := eqB (n := 35) c35 (by omega)
          have x35 : (s[i].toNat : Int) = 35 := by simpa using e35
          cases q with
          | true =>
            have HN := Lib.hid (remAt_other HL'.out (by rw [HB.out]; exact c92) (by rw [HB.out]; exact c34) (by simp) HI.out)
            clear c34 c92 c35
            go_wp2
            all_goals first | (exfalso; omega) | go_round
            all_goals first
              | exact ⟨_, _, i + 1, by omega, rfl, rfl, by simp, HN.out⟩
              | (simp [intOf]; omega)
          | false =>
            rcases i with _ | j
            · have HN := Lib.hid (remAt_hash HL'.out (HB.out.trans c35) rfl HI.out)
              clear c34 c92 c35
              go_wp2
              all_goals first | (exfalso; omega) | skip
              go_ret2
              exact ⟨by rw [HN.out]; simp [remRes], rfl⟩
            · have hj : j < s.size := by omega
              have HBJ : Hid (blank s.data.toList (j + 1) = (s[j] == 32)) := blank_succ _ j (by rw [HLL.out]; exact hj)
              by_cases c32 : s[j] = 32
              · have e32 : ((s[j].toNat : Int) == 32) = true := eqB (n := 32) c32 (by omega)
                have HN := Lib.hid (remAt_hash HL'.out (HB.out.trans c35) (by rw [HBJ.out, c32]; rfl) HI.out)
                clear c34 c92 c35 c32
                go_wp2
                all_goals first | (exfalso; omega) | skip
                go_ret2
                exact ⟨by rw [HN.out]; simp [remRes], rfl⟩
              · have e32 : ((s[j].toNat : Int) == 32) = false := neB (n := 32) c32
                have HN := Lib.hid (remAt_other HL'.out (by rw [HB.out]; exact c92) (by rw [HB.out]; exact c34) (by rw [HBJ.out]; simp [c32]) HI.out)
                clear c34 c92 c35 c32
                go_wp2
                all_goals first | (exfalso; omega) | go_round
                all_goals first
                  | exact ⟨_, _, j + 1 + 1, by omega, rfl, rfl, by simp, HN.out⟩
                  | (simp [intOf]; omega)
        · have e35 : ((s[i].toNat : Int) == 35) = false := neB (n := 35) c35
          have x35 : (s[i].toNat : Int) ≠ 35 := by simpa using e35
          have HN := Lib.hid (remAt_other HL'.out (by rw [HB.out]; exact c92) (by rw [HB.out]; exact c34) (fun h => c35 (HB.out.symm.trans h.1)) HI.out)
          clear c34 c92 c35
          go_wp2
          all_goals first | (exfalso; omega) | go_round
          all_goals first
            | exact ⟨_, _, i + 1, by omega, rfl, rfl, by simp, HN.out⟩
            | (simp [intOf]; omega)
    · obtain rfl : i = s.size := by omega
      have HN := Lib.hid (remAt_end (by rw [HLL.out]; omega) HLL.out.symm HI.out)
      cases q with
      | true =>
        go_wp2
        go_ret2
        exact ⟨by rw [HN.out]; simp [remRes], rfl⟩
      | false =>
        go_wp2
        go_ret2
        refine ⟨?_, rfl⟩
        rw [HN.out]
        show _ = Ending.returned (.tuple #[.string (s.extract 0 s.data.toList.length), .bool true])
        rw [HLL.out, extract_all]
        rfl
def tx (l : List UInt8) : ByteArray := ⟨l.toArray⟩
theorem tx_toList (l : List UInt8) : (tx l).data.toList = l := by simp [tx]
theorem tx_size (l : List UInt8) : (tx l).size = l.length := by simp [tx, ByteArray.size]
theorem tx_of (s : ByteArray) : tx s.data.toList = s := by
  cases s; rfl
theorem tx_extract (s : ByteArray) (a b : Nat) : s.extract a b = tx ((s.data.toList.drop a).take (b - a)) := by
  conv => lhs; rw [← tx_of s]
  exact Lib.extract_mk _ _ _
def scells (l : List (List UInt8)) : List Value := l.map fun x => .string (tx x)
theorem scells_snoc (l : List (List UInt8)) (x : List UInt8) : scells (l ++ [x]) = scells l ++ [.string (tx x)] := by simp [scells]
def SBuf (w : World) (B : Nat) (v : Value) (l : List (List UInt8)) : Prop := w.ownsRow B 9 1 v l.length (scells l)
theorem SBuf.lt {w : World} {B : Nat} {v : Value} {l : List (List UInt8)} (h : SBuf w B v l) : ∀ g, v.ownBlock = some g → B ≤ g ∧ g < w.heap.size := World.ownsRow.lt h
theorem SBuf.fresh {w w' : World} {B : Nat} {v : Value} {l : List (List UInt8)} (h : SBuf w B v l) (hf : Fresh w w') : SBuf w' B v l := by
  refine World.ownsRow.kept (row := none) h ⟨hf.os, hf.tape, hf.output, hf.size, fun k hk _ => hf.block k hk⟩ ?_
  rcases h' : v.ownBlock with _ | g
  · exact .inl rfl
  · exact .inr (by simp)
theorem SBuf.more {w' : World} {B : Nat} {v : Value} {l : List (List UInt8)} {x : List UInt8} (h : w'.ownsRow B 9 1 v (l.length + 1) (scells l ++ [.string (tx x)])) : SBuf w' B v (l ++ [x]) := by
  unfold SBuf
  rw [scells_snoc, List.length_append]
  exact h
theorem scells_get (l : List (List UInt8)) (j : Nat) (h : j < l.length) : (scells l)[j]? = some (.string (tx l[j])) := by
  unfold scells
  rw [List.getElem?_map, List.getElem?_eq_getElem h]; rfl
theorem SBuf.cell {w : World} {B g n cap : Nat} {l : List (List UInt8)} (h : SBuf w B (.slice (some ⟨g, 0, none⟩) n cap) l) (j : Nat) (hj : j < l.length) : w.cell? ⟨g, j, none⟩ = some (.string (tx l[j])) := by
  have := World.ownsRow.cells h rfl j _ (scells_get l j hj)
  rwa [addr_add0] at this
theorem info9 : (Tryz.prog.info? 9).map (fun i => (i.zero, i.size, i.bytes)) = some (some (.string ⟨#[]⟩), 1, 16) := by kernel_rfl
def rcell (r : Rw) : List Value := [.int .i64 (r.line : Int), .int .i64 (r.indent : Int), .bool r.dash, .string (tx r.text)]
def rcells (l : List Rw) : List Value := l.flatMap rcell
theorem rcells_snoc (l : List Rw) (t : Rw) : rcells (l ++ [t]) = rcells l ++ rcell t := by simp [rcells]
theorem rcell_one (t : Rw) : ∀ u ∈ rcell t, u.oneCell' = true := fun u hu => by
  simp only [rcell, List.mem_cons, List.not_mem_nil, or_false] at hu
  rcases hu with rfl | rfl | rfl | rfl <;> rfl
def RBuf (ty : Nat) (w : World) (B : Nat) (v : Value) (l : List Rw) : Prop := w.ownsRow B ty 4 v l.length (rcells l)
theorem RBuf.lt {ty : Nat} {w : World} {B : Nat} {v : Value} {l : List Rw} (h : RBuf ty w B v l) : ∀ g, v.ownBlock = some g → B ≤ g ∧ g < w.heap.size := World.ownsRow.lt h
theorem RBuf.fresh {ty : Nat} {w w' : World} {B : Nat} {v : Value} {l : List Rw} (h : RBuf ty w B v l) (hf : Fresh w w') : RBuf ty w' B v l := by
  refine World.ownsRow.kept (row := none) h ⟨hf.os, hf.tape, hf.output, hf.size, fun k hk _ => hf.block k hk⟩ ?_
  rcases h' : v.ownBlock with _ | g
  · exact .inl rfl
  · exact .inr (by simp)
theorem RBuf.more {ty : Nat} {w' : World} {B : Nat} {v : Value} {l : List Rw} {t : Rw} (h : w'.ownsRow B ty 4 v (l.length + 1) (rcells l ++ rcell t)) : RBuf ty w' B v (l ++ [t]) := by
  unfold RBuf
  rw [rcells_snoc, List.length_append]
  exact h
theorem rcells_get (l : List Rw) : ∀ (i : Nat) (h : i < l.length) (j : Nat), j < 4 → (rcells l)[4 * i + j]? = (rcell l[i])[j]? := by
  induction l with
  | nil => intro i h; simp at h
  | cons t l ih =>
    intro i h j hj
    have e : rcells (t :: l) = rcell t ++ rcells l := by simp [rcells]
    have hl : (rcell t).length = 4 := rfl
    rw [e]
    rcases i with _ | i
    · rw [List.getElem?_append_left (by omega)]
      simp
    · rw [List.getElem?_append_right (by omega), hl, show 4 * (i + 1) + j - 4 = 4 * i + j by omega, ih i (by simpa using h) j hj]
      simp
theorem RBuf.cell {ty : Nat} {w : World} {B g n cap : Nat} {l : List Rw} (h : RBuf ty w B (.slice (some ⟨g, 0, none⟩) n cap) l) (i : Nat) (hi : i < l.length) (j : Nat) (hj : j < 4) {u : Value} (hu : (rcell l[i])[j]? = some u) : w.cell? ⟨g, 4 * i + j, none⟩ = some u := by
  have := World.ownsRow.cells h rfl (4 * i + j) u (by rw [rcells_get l i hi j hj]; exact hu)
  rwa [addr_add0] at this
theorem info32 : (Tryz.prog.info? 90).map (fun i => (i.zero, i.size, i.bytes)) = some (some (.agg #[.int .i64 0, .int .i64 0, .bool false, .string ⟨#[]⟩]), 4, 40) := by kernel_rfl
theorem info31 : (Tryz.prog.info? 66).map (fun i => (i.zero, i.size, i.bytes)) = some (some (.agg #[.int .i64 0, .int .i64 0, .bool false, .string ⟨#[]⟩]), 4, 40) := by kernel_rfl
theorem rnews (ty : Nat) (w : World) (t : Rw) : ∀ j u, (rcell t)[j]? = some u → (w.alloc (.cells #[.int .i64 (t.line : Int), .int .i64 (t.indent : Int), .bool t.dash, .string (tx t.text)] ty)).cell? ((⟨w.heap.size, 0, none⟩ : Addr).add j) = some u :=
  World.news_of_block (at_new w (.cells #[.int .i64 (t.line : Int), .int .i64 (t.indent : Int), .bool t.dash, .string (tx t.text)] ty))
theorem snews (w : World) (x : ByteArray) : ∀ j u, [Value.string x][j]? = some u → (w.alloc (.cells #[.string x] 9)).cell? ((⟨w.heap.size, 0, none⟩ : Addr).add j) = some u :=
  World.news_of_block (at_new w (.cells #[.string x] 9))
def cur (l : List UInt8) (a b : Nat) : List UInt8 := (l.drop a).take (b - a)
theorem cur_self (l : List UInt8) (a : Nat) : cur l a a = [] := by simp [cur]
theorem cur_succ (l : List UInt8) (a b : Nat) (h : a ≤ b) (hb : b < l.length) : cur l a (b + 1) = cur l a b ++ [l[b]] := by
  unfold cur
  rw [show b + 1 - a = (b - a) + 1 by omega, List.take_succ_eq_append_getElem (by simp; omega)]
  congr 1
  simp [show a + (b - a) = b by omega]
def LinesAt (l : List UInt8) (a b : Nat) (out : List (List UInt8)) : Prop := lnsA [] l = out ++ lnsA (cur l a b) (l.drop b)
theorem linesAt_zero (l : List UInt8) : LinesAt l 0 0 [] := by
  unfold LinesAt
  rw [cur_self]; rfl
theorem linesAt_byte {l : List UInt8} {a b : Nat} {out : List (List UInt8)} (h : LinesAt l a b out) (ha : a ≤ b) (hb : b < l.length) (hc : l[b] ≠ 10) : LinesAt l a (b + 1) out := by
  unfold LinesAt at *
  rw [h, List.drop_eq_getElem_cons hb, lnsA, if_neg hc, cur_succ l a b ha hb]
theorem linesAt_feed {l : List UInt8} {a b : Nat} {out : List (List UInt8)} (h : LinesAt l a b out) (hb : b < l.length) (hc : l[b] = 10) : LinesAt l (b + 1) (b + 1) (out ++ [cur l a b]) := by
  unfold LinesAt at *
  rw [h, List.drop_eq_getElem_cons hb, lnsA, if_pos hc, cur_self]
  simp
theorem linesAt_end {l : List UInt8} {a b : Nat} {out : List (List UInt8)} (h : LinesAt l a b out) (hb : b = l.length) : lnsA [] l = out ++ [cur l a b] := by
  unfold LinesAt at *
  rw [h, List.drop_eq_nil_of_le (by omega), lnsA]
def LinesIs (w : World) (L : List (List UInt8)) (e : Ending) (w' : World) : Prop :=
  (∃ g cap, e = .returned (.slice (some ⟨g, 0, none⟩) L.length cap) ∧ SBuf w' w.heap.size (.slice (some ⟨g, 0, none⟩) L.length cap) L) ∧ Fresh w w'
theorem lines_any (s : ByteArray) (w : World) (hs : s.size ≤ 1000000) : Calls Tryz.prog 56 #[.string s] w (LinesIs w (lnsA [] s.data.toList)) := by
  obtain ⟨i0, hi, hz0, hz1, hz2⟩ := info_parts info9
  have hll : s.data.toList.length = s.size := by simp
  have HLL := Lib.hid hll
  clear hll
  obtain ⟨L, hL⟩ : ∃ L, L = lnsA [] s.data.toList := ⟨_, rfl⟩
  rw [← hL]
  have HL := Lib.hid hL
  have HLN : Hid (L.length ≤ s.size + 1) := by rw [Hid, hL]; have := lnsA_len [] s.data.toList; simp at this; exact this
  have HEX : Hid (∀ a b, s.extract a b = tx (cur s.data.toList a b)) := fun a b => tx_extract s a b
  clear hL
  go_enter Tryz.func56, Tryz.ntmps56
  go_wp2
  go_loopw [3, 4, 5] (fun a3 a4 a5 wr => ∃ (a b : Nat) (out : List (List UInt8)) (v : Value), b ≤ s.size + 1 ∧ a ≤ b ∧ v = a3 ∧ a4 = .int .i64 a ∧ a5 = .int .i64 b ∧ Hid (b ≤ s.size → LinesAt s.data.toList a b out) ∧ Hid (s.size < b → L = out ∧ ∃ g n cap, v = .slice (some ⟨g, 0, none⟩) n cap) ∧ Hid (out.length ≤ b) ∧ Hid (SBuf wr w.heap.size v out) ∧ Hid (Fresh w wr)) (fun _ _ a5 _ => s.size + 1 - (intOf a5).toNat)
  case atStart => exact ⟨0, 0, [], .slice none 0 0, by omega, by omega, rfl, rfl, rfl, fun _ => linesAt_zero _, fun h => by omega, by simp [Hid], World.ownsRow_nil _ _ _ _, Fresh.refl _⟩
  case round =>
    obtain ⟨a, b, out, v, hb, ha, rfl, rfl, rfl, HAT, HEND, HLEN, HB, HF⟩ := hrel
    by_cases hlt : b < s.size + 1
    · have hbs : (b : Int) ≤ (s.size : Int) := by omega
      have hcl : out.length ≤ 1000001 := by have := HLEN.out; omega
      have q0 := HEX.out a b
      have hab : (a : Int) ≤ (b : Int) := by omega
      by_cases heq : b = s.size
      · subst heq
        have HN := Lib.hid (linesAt_end (HAT.out (Nat.le_refl _)) HLL.out.symm)
        have HCELL := Lib.hid (snews wr (tx (cur s.data.toList a s.size)))
        generalize cur s.data.toList a s.size = x at *
        go_wp2_with (at_builtin; refine Hid.out ?_)
        refine Lib.hid ?_
        refine wpList_append_lies _ rfl _ _ 104 rfl w.heap.size 9 i0 (.string ⟨#[]⟩) 1 16 Tryz.underlying104 hi hz0 hz1 hz2 rfl (by decide) v out.length (scells out) rfl (World.ownsRow.alloc HB.out _) ⟨wr.heap.size, 0, none⟩ 1 1 [.string (tx x)] rfl rfl HCELL.out (by simp [Value.oneCell']) (by decide) (by unfold maxLen; omega) (by omega) (by rw [World.size_alloc]; have := HF.out.size; omega) (wr.heap.size + 1) (by simp) ?_
        intro g cap w2 hown hgrow hat hlt2
        have HT2 := Lib.hid (SBuf.more hown)
        have HF2 := Lib.hid ((HF.out.alloc (.cells #[.string (tx x)] 9)).grown hgrow (fun g e => (HB.out.lt g e).1))
        clear hown hgrow hat hlt2
        go_wp2
        go_roundw
        case rel => exact ⟨s.size + 1, s.size + 1, out ++ [x], _, by omega, by omega, rfl, by simp, by simp, fun h => by omega, fun _ => ⟨by rw [HL.out]; exact HN.out, _, _, _, rfl⟩, by rw [Hid, List.length_append]; have := HLEN.out; simp; omega, HT2.out, HF2.out⟩
        case measure => simp [intOf]
      · have hlt' : b < s.size := by omega
        have hne : ((b : Int) == (s.size : Int)) = false := by rw [beq_eq_false_iff_ne]; omega
        have hne' : (b : Int) ≠ (s.size : Int) := by omega
        have HL' : Hid (b < s.data.toList.length) := by rw [Hid, HLL.out]; exact hlt'
        have HBY : Hid (s.data.toList[b]'HL'.out = s[b]'hlt') := rfl
        by_cases c10 : s[b] = 10
        · have e10 : ((s[b].toNat : Int) == 10) = true := eqB (n := 10) c10 (by omega)
          have x10 : (s[b].toNat : Int) = 10 := by simpa using e10
          have HN := Lib.hid (linesAt_feed (HAT.out (by omega)) HL'.out (HBY.out.trans c10))
          have HCELL := Lib.hid (snews wr (tx (cur s.data.toList a b)))
          clear c10
          generalize cur s.data.toList a b = x at *
          go_wp2_with (at_builtin; refine Hid.out ?_)
          all_goals try (exfalso; omega)
          refine Lib.hid ?_
          refine wpList_append_lies _ rfl _ _ 104 rfl w.heap.size 9 i0 (.string ⟨#[]⟩) 1 16 Tryz.underlying104 hi hz0 hz1 hz2 rfl (by decide) v out.length (scells out) rfl (World.ownsRow.alloc HB.out _) ⟨wr.heap.size, 0, none⟩ 1 1 [.string (tx x)] rfl rfl HCELL.out (by simp [Value.oneCell']) (by decide) (by unfold maxLen; omega) (by omega) (by rw [World.size_alloc]; have := HF.out.size; omega) (wr.heap.size + 1) (by simp) ?_
          intro g cap w2 hown hgrow hat hlt2
          have HT2 := Lib.hid (SBuf.more hown)
          have HF2 := Lib.hid ((HF.out.alloc (.cells #[.string (tx x)] 9)).grown hgrow (fun g e => (HB.out.lt g e).1))
          clear hown hgrow hat hlt2
          go_wp2
          go_roundw
          case rel => exact ⟨b + 1, b + 1, out ++ [x], _, by omega, by omega, rfl, by simp, by simp, fun _ => HN.out, fun h => by omega, by rw [Hid, List.length_append]; have := HLEN.out; simp; omega, HT2.out, HF2.out⟩
          case measure => simp [intOf]; omega
        · have e10 : ((s[b].toNat : Int) == 10) = false := neB (n := 10) c10
          have x10 : (s[b].toNat : Int) ≠ 10 := by simpa using e10
          have HN := Lib.hid (linesAt_byte (HAT.out (by omega)) ha HL'.out (by rw [HBY.out]; exact c10))
          clear c10
          go_wp2
          all_goals try (exfalso; omega)
          go_roundw
          case rel => exact ⟨a, b + 1, out, _, by omega, by omega, rfl, rfl, by simp, fun _ => HN.out, fun h => by omega, by have := HLEN.out; exact Nat.le_succ_of_le this, HB.out, HF.out⟩
          case measure => simp [intOf]; omega
    · obtain ⟨rfl, g, n, cap, rfl⟩ := HEND.out (by omega)
      have hlt3 : ¬ (b : Int) ≤ (s.size : Int) := by omega
      have hn : n = L.length := by
        obtain ⟨_, ⟨h1, _⟩ | ⟨g', cap', c2, h1, _⟩⟩ := HB.out
        · cases h1
        · injection h1
      subst hn
      go_wp2
      go_ret
      exact ⟨⟨g, cap, rfl, HB.out⟩, HF.out⟩
end
namespace v
inductive V where
  | mk (kind : Int) (flag : Bool) (num : Int) (text : ByteArray) (list : List V) (keys : List (ByteArray × V))
def V.kind : V → Int | .mk k _ _ _ _ _ => k
def V.flag : V → Bool | .mk _ f _ _ _ _ => f
def V.num : V → Int | .mk _ _ n _ _ _ => n
def V.text : V → ByteArray | .mk _ _ _ s _ _ => s
def V.list : V → List V | .mk _ _ _ _ l _ => l
def V.keys : V → List (ByteArray × V) | .mk _ _ _ _ _ ks => ks
def V.inside (v : V) : List V := if v.kind = 4 then v.list else if v.kind = 5 then v.keys.map (·.2) else []
def V.holds (v : V) : Bool := decide (v.kind = 4 ∨ v.kind = 5)
mutual
def V.size : V → Nat
  | .mk _ _ _ _ l ks => 1 + (sizeL l + sizeK ks)
def sizeL : List V → Nat
  | [] => 0
  | v :: l => v.size + sizeL l
def sizeK : List (ByteArray × V) → Nat
  | [] => 0
  | (_, v) :: l => v.size + sizeK l
end
theorem sizeK_eq (ks : List (ByteArray × V)) : sizeK ks = sizeL (ks.map (·.2)) := by
  induction ks with
  | nil => rfl
  | cons k ks ih => obtain ⟨s, v⟩ := k; simp only [sizeK, List.map_cons, sizeL, ih]
theorem V.size_eq (v : V) : v.size = 1 + (sizeL v.list + sizeL (v.keys.map (·.2))) := by
  obtain ⟨k, f, n, s, l, ks⟩ := v
  simp only [V.size, V.list, V.keys, sizeK_eq]
theorem V.size_pos (v : V) : 0 < v.size := by rw [V.size_eq]; omega
theorem size_inside (v : V) : sizeL v.inside < v.size := by
  rw [V.size_eq]
  unfold V.inside
  split
  · omega
  split
  · omega
  · simp only [sizeL]; omega
theorem size_mem {v : V} {l : List V} (h : v ∈ l) : v.size ≤ sizeL l := by
  induction l with
  | nil => cases h
  | cons a l ih =>
    simp only [sizeL]
    rcases List.mem_cons.1 h with rfl | h
    · omega
    · have := ih h; omega
theorem length_le_size (l : List V) : l.length ≤ sizeL l := by
  induction l with
  | nil => exact Nat.zero_le _
  | cons a l ih => have := a.size_pos; simp only [sizeL, List.length_cons]; omega
mutual
def V.depth : V → Nat
  | .mk k _ _ _ l ks => if k = 4 then depthL l + 1 else if k = 5 then depthK ks + 1 else 0
def depthL : List V → Nat
  | [] => 0
  | v :: l => max v.depth (depthL l)
def depthK : List (ByteArray × V) → Nat
  | [] => 0
  | (_, v) :: l => max v.depth (depthK l)
end
theorem depthK_eq (ks : List (ByteArray × V)) : depthK ks = depthL (ks.map (·.2)) := by
  induction ks with
  | nil => rfl
  | cons k ks ih => obtain ⟨s, v⟩ := k; simp only [depthK, List.map_cons, depthL, ih]
theorem V.depth_holds {v : V} (h : v.holds = true) : v.depth = depthL v.inside + 1 := by
  obtain ⟨k, f, n, s, l, ks⟩ := v
  have h' : k = 4 ∨ k = 5 := of_decide_eq_true h
  rcases h' with rfl | rfl
  · simp [V.depth, V.inside, V.kind, V.list]
  · simp [V.depth, V.inside, V.kind, V.keys, depthK_eq]
theorem V.depth_not {v : V} (h : v.holds = false) : v.depth = 0 := by
  obtain ⟨k, f, n, s, l, ks⟩ := v
  have h' : ¬ (k = 4 ∨ k = 5) := of_decide_eq_false h
  simp only [V.depth]
  rw [if_neg (by omega), if_neg (by omega)]
theorem inside_not {v : V} (h : v.holds = false) : v.inside = [] := by
  simp only [V.holds, decide_eq_false_iff_not] at h
  unfold V.inside
  rw [if_neg (by omega), if_neg (by omega)]
theorem depthL_lt (l : List V) (n : Nat) : n < depthL l ↔ ∃ v ∈ l, n < v.depth := by
  induction l with
  | nil => simp [depthL]
  | cons a l ih =>
    simp only [depthL, List.mem_cons, exists_eq_or_imp]
    rw [← ih]; omega
theorem depthL_append (l m : List V) : depthL (l ++ m) = max (depthL l) (depthL m) := by
  induction l with
  | nil => simp [depthL]
  | cons a l ih => simp only [List.cons_append, depthL, ih]; omega
theorem depth_le (n : Nat) : ∀ v : V, v.size ≤ n → v.depth ≤ v.size := by
  induction n with
  | zero => intro v hv; have := v.size_pos; omega
  | succ n ih =>
    intro v hv
    cases h : v.holds with
    | false => rw [v.depth_not h]; omega
    | true =>
      rw [v.depth_holds h]
      have hs := size_inside v
      rcases Nat.eq_zero_or_pos (depthL v.inside) with h0 | h0
      · have := v.size_pos; omega
      · obtain ⟨x, hx, hd⟩ := (depthL_lt v.inside (depthL v.inside - 1)).1 (by omega)
        have h1 := size_mem hx
        have := ih x (by omega)
        omega
theorem V.depth_size (v : V) : v.depth ≤ v.size := depth_le v.size v (Nat.le_refl _)
def bnd : List (V × Nat) → Nat
  | [] => 0
  | (v, n) :: l => max (n - 1 + v.depth) (bnd l)
theorem bnd_append (l m : List (V × Nat)) : bnd (l ++ m) = max (bnd l) (bnd m) := by
  induction l with
  | nil => simp [bnd]
  | cons a l ih => obtain ⟨v, n⟩ := a; simp only [List.cons_append, bnd, ih]; omega
theorem bnd_mem {l : List (V × Nat)} {v : V} {n : Nat} (h : (v, n) ∈ l) : n - 1 + v.depth ≤ bnd l := by
  induction l with
  | nil => cases h
  | cons a l ih =>
    obtain ⟨x, k⟩ := a
    simp only [bnd]
    rcases List.mem_cons.1 h with h | h
    · cases h; omega
    · have := ih h; omega
def pushed (l : List V) (n : Nat) : List (V × Nat) := (l.filter V.holds).map fun v => (v, n)
theorem pushed_cons (v : V) (l : List V) (n : Nat) : pushed (v :: l) n = (if v.holds = true then [(v, n)] else []) ++ pushed l n := by
  unfold pushed
  cases h : v.holds <;> simp [h]
theorem bnd_pushed (l : List V) (n : Nat) : max n (bnd (pushed l (n + 1))) = n + depthL l := by
  induction l with
  | nil => simp [pushed, bnd, depthL]
  | cons v l ih =>
    rw [pushed_cons, bnd_append]
    simp only [depthL]
    cases h : v.holds with
    | false => rw [v.depth_not h]; simp [bnd]; omega
    | true => simp only [if_true, bnd]; omega
theorem bnd_step (l : List (V × Nat)) (v : V) (n d : Nat) (h : v.holds = true) (hn : 1 ≤ n) : max d (bnd (l ++ [(v, n)])) = max (max d n) (bnd (l ++ pushed v.inside (n + 1))) := by
  have := bnd_pushed v.inside n
  rw [bnd_append, bnd_append]
  simp only [bnd]
  rw [v.depth_holds h]
  omega
def szs : List (V × Nat) → Nat
  | [] => 0
  | (v, _) :: l => v.size + szs l
theorem szs_append (l m : List (V × Nat)) : szs (l ++ m) = szs l + szs m := by
  induction l with
  | nil => simp [szs]
  | cons a l ih => obtain ⟨v, n⟩ := a; simp only [List.cons_append, szs, ih]; omega
theorem szs_pushed (l : List V) (n : Nat) : szs (pushed l n) ≤ sizeL l := by
  induction l with
  | nil => exact Nat.le_refl _
  | cons v l ih =>
    rw [pushed_cons, szs_append]
    simp only [sizeL]
    cases h : v.holds with
    | false => simp [szs]; omega
    | true => simp only [if_true, szs]; omega
theorem szs_length (l : List (V × Nat)) : l.length ≤ szs l := by
  induction l with
  | nil => exact Nat.le_refl _
  | cons a l ih => obtain ⟨v, n⟩ := a; have := v.size_pos; simp only [szs, List.length_cons]; omega
theorem szs_step (l : List (V × Nat)) (v : V) (n k : Nat) : szs (l ++ pushed v.inside k) < szs (l ++ [(v, n)]) := by
  rw [szs_append, szs_append]
  have := szs_pushed v.inside k
  have := size_inside v
  simp only [szs]; omega
mutual
def V.same : V → V → Bool
  | .mk k f n s l ks, .mk k' f' n' s' l' ks' => decide (k = k') && (decide (k ≠ 1 ∨ f = f') && (decide (k ≠ 2 ∨ n = n') && (decide (k ≠ 3 ∨ s = s') && ((decide (k ≠ 4) || sameL l l') && (decide (k ≠ 5) || sameK ks ks')))))
def sameL : List V → List V → Bool
  | [], [] => true
  | v :: l, w :: m => v.same w && sameL l m
  | [], _ :: _ => false
  | _ :: _, [] => false
def sameK : List (ByteArray × V) → List (ByteArray × V) → Bool
  | [], [] => true
  | (s, v) :: l, (t, w) :: m => decide (s = t) && (v.same w && sameK l m)
  | [], _ :: _ => false
  | _ :: _, [] => false
end
def V.alike (v w : V) : Bool := decide (v.kind = w.kind ∧ (v.kind ≠ 1 ∨ v.flag = w.flag) ∧ (v.kind ≠ 2 ∨ v.num = w.num) ∧ (v.kind ≠ 3 ∨ v.text = w.text) ∧ (v.kind ≠ 5 ∨ v.keys.map (·.1) = w.keys.map (·.1)))
theorem sameK_eq : ∀ (l m : List (ByteArray × V)), sameK l m = (decide (l.map (·.1) = m.map (·.1)) && sameL (l.map (·.2)) (m.map (·.2)))
  | [], [] => by simp [sameK, sameL]
  | (s, v) :: l, (t, w) :: m => by
    simp only [sameK, List.map_cons, sameL, sameK_eq l m, List.cons.injEq]
    by_cases h : s = t <;> by_cases h2 : l.map (·.1) = m.map (·.1) <;> simp [h, h2]
  | [], _ :: _ => by simp [sameK]
  | _ :: _, [] => by simp [sameK]
def sin (v w : V) : Bool := sameL v.inside w.inside
theorem same_eq (v w : V) : v.same w = (v.alike w && sin v w) := by
  obtain ⟨k, f, n, s, l, ks⟩ := v
  obtain ⟨k', f', n', s', l', ks'⟩ := w
  simp only [V.same, V.alike, sin, V.inside, V.kind, V.flag, V.num, V.text, V.list, V.keys, sameK_eq]
  by_cases hk : k = k'
  · subst hk
    by_cases h4 : k = 4
    · subst h4; simp
    · by_cases h5 : k = 5
      · subst h5; simp
      · simp [h4, h5, sameL]
  · simp [hk]
theorem sin_not {v w : V} (hv : v.holds = false) (hw : w.kind = v.kind) : sin v w = true := by
  unfold sin
  rw [inside_not hv, inside_not (by unfold V.holds at hv ⊢; rw [hw]; exact hv)]
  rfl
theorem alike_kind {v w : V} (h : v.alike w = true) : w.kind = v.kind := by
  unfold V.alike at h
  exact (of_decide_eq_true h).1.symm
def alikeL : List V → List V → Bool
  | [], [] => true
  | v :: l, w :: m => v.alike w && alikeL l m
  | [], _ :: _ => false
  | _ :: _, [] => false
theorem alikeL_length : ∀ {l m : List V}, alikeL l m = true → l.length = m.length
  | [], [], _ => rfl
  | v :: l, w :: m, h => by
    simp only [alikeL, Bool.and_eq_true] at h
    simp [alikeL_length h.2]
  | [], _ :: _, h => by cases h
  | _ :: _, [], h => by cases h
theorem alikeL_parted {l m : List V} (h : l.length ≠ m.length) : alikeL l m = false := by
  cases e : alikeL l m with
  | false => rfl
  | true => exact absurd (alikeL_length e) h
theorem alikeL_drop (l m : List V) (k : Nat) (hl : k < l.length) (hm : k < m.length) : alikeL (l.drop k) (m.drop k) = (l[k].alike m[k] && alikeL (l.drop (k + 1)) (m.drop (k + 1))) := by
  rw [List.drop_eq_getElem_cons hl, List.drop_eq_getElem_cons hm, alikeL]
def allS (l : List (V × V)) : Bool := l.all fun p => sin p.1 p.2
theorem allS_append (l m : List (V × V)) : allS (l ++ m) = (allS l && allS m) := by simp [allS]
def pushed2 (l m : List V) : List (V × V) := (l.zip m).filter fun p => p.1.holds
theorem sameL_alike : ∀ (l m : List V), sameL l m = (alikeL l m && allS (pushed2 l m))
  | [], [] => rfl
  | v :: l, w :: m => by
    simp only [sameL, alikeL, same_eq, sameL_alike l m, pushed2, List.zip_cons_cons]
    cases ha : v.alike w with
    | false => simp
    | true =>
      cases hv : v.holds with
      | false => rw [sin_not hv (alike_kind ha)]; simp [hv]
      | true =>
        simp only [List.filter_cons, hv, if_true, allS, List.all_cons, Bool.true_and]
        cases sin v w <;> cases alikeL l m <;> rfl
  | [], _ :: _ => rfl
  | _ :: _, [] => rfl
def szs2 : List (V × V) → Nat
  | [] => 0
  | (v, _) :: l => v.size + szs2 l
theorem szs2_append (l m : List (V × V)) : szs2 (l ++ m) = szs2 l + szs2 m := by
  induction l with
  | nil => simp [szs2]
  | cons a l ih => obtain ⟨v, n⟩ := a; simp only [List.cons_append, szs2, ih]; omega
theorem szs2_pushed : ∀ (l m : List V), szs2 (pushed2 l m) ≤ sizeL l
  | [], _ => by simp [pushed2, szs2]
  | v :: l, [] => by simp [pushed2, szs2]
  | v :: l, w :: m => by
    have ih := szs2_pushed l m
    unfold pushed2 at ih ⊢
    simp only [List.zip_cons_cons, List.filter_cons, sizeL]
    cases h : v.holds with
    | false => simp; omega
    | true => simp only [if_true, szs2]; omega
theorem szs2_length (l : List (V × V)) : l.length ≤ szs2 l := by
  induction l with
  | nil => exact Nat.le_refl _
  | cons a l ih => obtain ⟨v, n⟩ := a; have := v.size_pos; simp only [szs2, List.length_cons]; omega
theorem allS_step {l : List (V × V)} {v w : V} (h : alikeL v.inside w.inside = true) : allS (l ++ [(v, w)]) = allS (l ++ pushed2 v.inside w.inside) := by
  rw [allS_append, allS_append]
  congr 1
  show (sin v w && true) = _
  rw [Bool.and_true]
  unfold sin
  rw [sameL_alike, h, Bool.true_and]
theorem allS_parted {l : List (V × V)} {v w : V} (h : alikeL v.inside w.inside = false) : allS (l ++ [(v, w)]) = false := by
  rw [allS_append]
  show (allS l && (sin v w && true)) = _
  unfold sin
  rw [sameL_alike, h]
  simp
mutual
theorem V.same_refl : ∀ v : V, v.same v = true
  | .mk k f n s l ks => by simp [V.same, sameL_refl l, sameK_refl ks]
theorem sameL_refl : ∀ l : List V, sameL l l = true
  | [] => rfl
  | v :: l => by simp [sameL, V.same_refl v, sameL_refl l]
theorem sameK_refl : ∀ l : List (ByteArray × V), sameK l l = true
  | [] => rfl
  | (s, v) :: l => by simp [sameK, V.same_refl v, sameK_refl l]
end
def textW (s : ByteArray) : Int := if Lib.validD s.data.toList = true then (if 4096 < s.size then 2 else 0) else 10
def textsW : List ByteArray → Int
  | [] => 0
  | s :: l => if textW s ≠ 0 then textW s else textsW l
def keysW (l : List ByteArray) : Int := if textsW l ≠ 0 then textsW l else if l.Nodup then 0 else 8
def V.own (v : V) : Int := if v.kind < 0 ∨ 5 < v.kind then 15 else if v.kind = 3 then textW v.text else if v.kind = 5 then keysW (v.keys.map (·.1)) else 0
mutual
def V.wrong : V → Int
  | .mk k f n s l ks => if (V.mk k f n s l ks).own ≠ 0 then (V.mk k f n s l ks).own else if k = 4 then wrongL l else if k = 5 then wrongK ks else 0
def wrongL : List V → Int
  | [] => 0
  | v :: l => if v.wrong ≠ 0 then v.wrong else wrongL l
def wrongK : List (ByteArray × V) → Int
  | [] => 0
  | (_, v) :: l => if v.wrong ≠ 0 then v.wrong else wrongK l
end
theorem wrongK_eq (ks : List (ByteArray × V)) : wrongK ks = wrongL (ks.map (·.2)) := by
  induction ks with
  | nil => rfl
  | cons k ks ih => obtain ⟨s, v⟩ := k; simp only [wrongK, List.map_cons, wrongL, ih]
theorem wrong_eq (v : V) : v.wrong = if v.own ≠ 0 then v.own else wrongL v.inside := by
  obtain ⟨k, f, n, s, l, ks⟩ := v
  simp only [V.wrong, V.inside, V.kind, V.list, V.keys, wrongK_eq]
  split
  · rfl
  by_cases h4 : k = 4
  · subst h4; simp
  by_cases h5 : k = 5
  · subst h5; simp
  · simp [h4, h5, wrongL]
theorem wrongL_drop (l : List V) (k : Nat) (h : k < l.length) : wrongL (l.drop k) = if l[k].wrong ≠ 0 then l[k].wrong else wrongL (l.drop (k + 1)) := by
  rw [List.drop_eq_getElem_cons h, wrongL]
theorem textsW_drop (l : List ByteArray) (k : Nat) (h : k < l.length) : textsW (l.drop k) = if textW l[k] ≠ 0 then textW l[k] else textsW (l.drop (k + 1)) := by
  rw [List.drop_eq_getElem_cons h, textsW]
def V.check (v : V) : Int := if 32 < v.depth then 9 else v.wrong
theorem textW_bd (s : ByteArray) : 0 ≤ textW s ∧ textW s ≤ 100 := by unfold textW; repeat' split <;> omega
def V.get (v : V) (name : ByteArray) : Option V := if v.kind = 5 then (v.keys.find? fun p => decide (p.1 = name)).map (·.2) else none
end v
end Go.Proofs.YtcljplkkgpjhlaaGreatDoorR
