/-
  Words for package simfs: how a file system lies in memory, and what a call may turn. Plain facts, no call.
-/
import Derived.Test.YtimcoofmemcojaaRows
import Derived.WalkKit
import Derived.ProofKit
import Derived.OpenShut
import Derived.ShutString
import Derived.WalkSpells
import Derived.WalkLawsBesides
import Derived.LoopTactic
import Derived.Lib.Hide
import Derived.Below
import Derived.Maps.OwnSet
import Derived.Maps.RangeWalk
namespace Go.Proofs.Ytimcoofmemcojaa
open Go.ChangeShapes Go.WideShapes Go.ChangeAt Go.RowKit

/-- Of what was there nothing has turned; there may be new blocks. -/
def Fresh (w w' : World) : Prop := Below w.heap.size w w'
theorem Fresh.refl (w : World) : Fresh w w := Below.refl _ _
theorem Fresh.trans {a b c : World} (h : Fresh a b) (k : Fresh b c) : Fresh a c := Below.trans h (Below.mono k h.size)
theorem Fresh.alloc {a b : World} (h : Fresh a b) (o : Obj) : Fresh a (b.alloc o) := Below.alloc h h.size o
theorem Fresh.setCell {a b : World} (h : Fresh a b) {p : Addr} (hp : a.heap.size ≤ p.block) (u : Value) : Fresh a (b.setCell p u) := Below.setCell h hp u
theorem Fresh.drew {a b : World} (h : Fresh a b) : Fresh a b.drew := Below.drew h
theorem Fresh.drewN {a b : World} (h : Fresh a b) (n : Nat) : Fresh a (b.drewN n) := ⟨h.os, h.tape, h.output, h.size, h.block⟩
theorem Fresh.at {a b : World} (h : Fresh a b) {k : Nat} {o : Obj} (hk : a.heap[k]? = some o) : b.heap[k]? = some o := by
  rw [h.block k (Array.getElem?_eq_some_iff.1 hk).1]; exact hk
theorem lt_of_at {w : World} {k : Nat} {o : Obj} (hk : w.heap[k]? = some o) : k < w.heap.size := (Array.getElem?_eq_some_iff.1 hk).1
theorem at_alloc {w : World} {k : Nat} {o p : Obj} (hk : w.heap[k]? = some o) : (w.alloc p).heap[k]? = some o := by
  rw [Below.heap_alloc _ _ _ (lt_of_at hk)]; exact hk
theorem at_new (w : World) (o : Obj) : (w.alloc o).heap[w.heap.size]? = some o := by
  show (w.heap.push o)[w.heap.size]? = _
  simp

/-- A block of the kinds that package simfs writes: a map, a system, a file, a deed. -/
def codeObj : Option Obj → Prop
  | some (.map _ _) => True
  | some (.cells _ t _) => t = 53 ∨ t = 67 ∨ t = 70
  | _ => False

/-- What a call of package simfs turns: from 'base' on, and of its own kinds alone. -/
structure Kept (base : Nat) (w w' : World) : Prop where
  os : w'.os = w.os
  tape : w'.tape = w.tape
  output : w'.output = w.output
  size : w.heap.size ≤ w'.heap.size
  block : ∀ k, k < w.heap.size → (k < base ∨ ¬ codeObj w.heap[k]?) → w'.heap[k]? = w.heap[k]?
theorem Kept.refl (base : Nat) (w : World) : Kept base w w := ⟨rfl, rfl, rfl, Nat.le_refl _, fun _ _ _ => rfl⟩
theorem Kept.trans {base : Nat} {a b c : World} (h : Kept base a b) (k : Kept base b c) : Kept base a c :=
  ⟨k.os.trans h.os, k.tape.trans h.tape, k.output.trans h.output, Nat.le_trans h.size k.size, fun i hi hb => by
    have h1 := h.block i hi hb
    rw [k.block i (Nat.lt_of_lt_of_le hi h.size) (by rw [h1]; exact hb), h1]⟩
theorem Kept.fresh {base : Nat} {a b c : World} (h : Kept base a b) (k : Fresh b c) : Kept base a c :=
  h.trans ⟨k.os, k.tape, k.output, k.size, fun i hi _ => k.block i hi⟩
theorem Fresh.kept {base : Nat} {a b : World} (k : Fresh a b) : Kept base a b := (Kept.refl base a).fresh k
theorem Kept.grown {base : Nat} {a b c : World} {r : Nat} (h : Kept base a b) (k : b.grownBy c (some r)) (hr : base ≤ r) (ho : codeObj b.heap[r]?) : Kept base a c :=
  h.trans ⟨k.os, k.tape, k.output, k.size, fun i hi hb => k.block i hi (fun e => by
    cases e
    rcases hb with hb | hb
    · omega
    · exact hb ho)⟩
theorem Kept.setCell {base : Nat} {a b : World} (h : Kept base a b) {p : Addr} (hr : base ≤ p.block) (ho : codeObj b.heap[p.block]?) (u : Value) : Kept base a (b.setCell p u) :=
  h.trans ⟨rfl, rfl, rfl, by simp [World.setCell], fun i hi hb => Below.heap_setCell _ _ _ _ (fun e => by
    subst e
    rcases hb with hb | hb
    · omega
    · exact hb ho)⟩
theorem Kept.below {base : Nat} {a b : World} (h : Kept base a b) (hb : base ≤ a.heap.size) : Below base a b := ⟨h.os, h.tape, h.output, h.size, fun k hk => h.block k (by omega) (.inl hk)⟩
theorem Kept.mono {base base' : Nat} {a b : World} (h : Kept base a b) (hb : base' ≤ base) : Kept base' a b :=
  ⟨h.os, h.tape, h.output, h.size, fun k hk hc => h.block k hk (hc.imp_left fun h => by omega)⟩
theorem Kept.at {base : Nat} {a b : World} (h : Kept base a b) {k : Nat} {cs : Array Value} {t : TypeId} {z : Nat × Nat} (hk : a.heap[k]? = some (.cells cs t z)) (ht : t ≠ 53 ∧ t ≠ 67 ∧ t ≠ 70) : b.heap[k]? = some (.cells cs t z) := by
  rw [h.block k (lt_of_at hk) (.inr (by rw [hk]; simp [codeObj]; omega))]; exact hk

/-! ### directories -/
/-- How a file's pointer reads: by its block. -/
def fileR : Value → Option (DataW Unit × List MemPlace)
  | .pointer none => some (.nil, [])
  | .pointer (some ⟨b, 0, none⟩) => some (.lit (.int .i64 b), [])
  | _ => none
abbrev fp (f : Nat) : Value := .pointer (some ⟨f, 0, none⟩)
theorem fileR_fp (f : Nat) : fileR (fp f) = some (.lit (.int .i64 f), []) := rfl
theorem fileR_inv {v : Value} {y : DataW Unit × List MemPlace} (h : fileR v = some y) : v = .pointer none ∨ ∃ f, v = fp f ∧ y = (.lit (.int .i64 f), []) := by
  unfold fileR at h
  split at h
  · exact .inl rfl
  · exact .inr ⟨_, rfl, by cases h; rfl⟩
  · cases h

abbrev Dir := ByteArray → Option Nat
def key (s : ByteArray) : Lit := .string s.data.toList
theorem key_inj {a b : ByteArray} (h : key a = key b) : a = b := by
  unfold key at h
  injection h with h
  exact ByteArray.ext (Array.ext' h)
theorem key_of (s : ByteArray) (hs : s.size ≤ maxLen) : keyOf Try.prog 9 (.string s) = some (key s) := Go.WideMaps.keyOf_string_mk Try.underlying9 hs
theorem law9 : Maps.Keyed Try.prog 9 := Maps.string_keyed Try.underlying9
theorem zero63 (w : World) : (zeroValue 63).run Try.prog w = .ok (.pointer none) w := by kernel_rfl

/-- D says which file is under which name. -/
def DirFact (m : Dir) (D : DataW Unit) : Prop := ∀ s : ByteArray, (m s = none → Maps.has D (key s) = false) ∧ ∀ f, m s = some f → Maps.has D (key s) = true ∧ ∀ z, D.atKey (key s) z = .lit (.int .i64 f)
/-- Block b is a map of at most n entries that says which file is under which name. -/
def dirIs (w : World) (b n : Nat) (m : Dir) : Prop :=
  ∃ D : DataW Unit, w.ownsMap Try.prog 9 fileR b n D ∧ DirFact m D
theorem dirIs.move {w w' : World} {b n : Nat} {m : Dir} (h : dirIs w b n m) (hb : w'.heap[b]? = w.heap[b]?) : dirIs w' b n m := by
  obtain ⟨D, ⟨es, clock, h1, r⟩, h2⟩ := h
  exact ⟨D, ⟨es, clock, hb.trans h1, r⟩, h2⟩
theorem dirIs.lt {w : World} {b n : Nat} {m : Dir} (h : dirIs w b n m) : b < w.heap.size := by
  obtain ⟨D, h1, _⟩ := h; exact h1.lt
theorem dirIs.code {w : World} {b n : Nat} {m : Dir} (h : dirIs w b n m) : codeObj w.heap[b]? := by
  obtain ⟨D, ⟨es, clock, h1, r⟩, h2⟩ := h; rw [h1]; trivial
theorem dirIs.not_cells {w : World} {b n : Nat} {m : Dir} (h : dirIs w b n m) {k : Nat} {cs : Array Value} {t : TypeId} {z : Nat × Nat} (hk : w.heap[k]? = some (.cells cs t z)) : b ≠ k := by
  obtain ⟨D, ⟨es, clock, h1, r⟩, h2⟩ := h
  rintro rfl
  rw [h1] at hk; cases hk
theorem dirIs.mono {w : World} {b n n' : Nat} {m : Dir} (h : dirIs w b n m) (hn : n ≤ n') : dirIs w b n' m := by
  obtain ⟨D, h1, h2⟩ := h; exact ⟨D, h1.mono hn, h2⟩
theorem dirIs_made (w : World) : dirIs (w.alloc (.map #[] 0)) w.heap.size 0 (fun _ => none) :=
  ⟨_, World.ownsMap_made w _ _ _, fun s => ⟨fun _ => rfl, (fun f h => by cases h)⟩⟩
theorem DirFact.put {m : Dir} {D : DataW Unit} (h2 : DirFact m D) (hD : Maps.IsMap D) (name : ByteArray) (hn : name.size ≤ maxLen) (f : Nat) : DirFact (fun s => if s = name then some f else m s) (D.put (key name) (.lit (.int .i64 f))) := by
  intro s
  have hk : WideAt.IsKeyLit (key name) := law9.key (v := .string name) (l := key name) (key_of name hn)
  by_cases hs : s = name
  · subst hs
    simp only [if_true]
    refine ⟨(fun h => by cases h), fun f' h => ?_⟩
    cases h
    exact ⟨Maps.has_put_same hD hk _, fun z => Maps.atKey_put_same hD hk _ _⟩
  · have hne : key s ≠ key name := fun e => hs (key_inj e)
    simp only [if_neg hs]
    refine ⟨fun h => ?_, fun f' h => ?_⟩
    · rw [Maps.has_put_other hne]; exact (h2 s).1 h
    · rw [Maps.has_put_other hne]; exact ⟨((h2 s).2 f' h).1, fun z => by rw [Maps.atKey_put_other hne]; exact ((h2 s).2 f' h).2 z⟩
theorem DirFact.del {m : Dir} {D : DataW Unit} (h2 : DirFact m D) (name : ByteArray) : DirFact (fun s => if s = name then none else m s) (D.del (key name)) := by
  intro s
  by_cases hs : s = name
  · subst hs
    simp only [if_true]
    exact ⟨fun _ => Maps.has_del_same, (fun f' h => by cases h)⟩
  · have hne : key s ≠ key name := fun e => hs (key_inj e)
    simp only [if_neg hs]
    refine ⟨fun h => ?_, fun f' h => ?_⟩
    · rw [Maps.has_del_other hne]; exact (h2 s).1 h
    · rw [Maps.has_del_other hne]; exact ⟨((h2 s).2 f' h).1, fun z => by rw [Maps.atKey_del_other hne]; exact ((h2 s).2 f' h).2 z⟩

/-! ### files, deeds, the system -/
/-- Block f is a file: when it came, its content now, and the safe one. -/
def fileAt (w : World) (f : Nat) (c : Int) (a b : ByteArray) : Prop := w.heap[f]? = some (.cells #[.int .i64 c, .string a, .string b] 67 (0, 0))
def isFile (base : Nat) (w : World) (f : Nat) : Prop := base ≤ f ∧ ∃ c a b, fileAt w f c a b ∧ a.size ≤ 8388608 ∧ b.size ≤ 8388608
theorem isFile.code {base : Nat} {w : World} {f : Nat} (h : isFile base w f) : codeObj w.heap[f]? := by
  obtain ⟨_, c, a, b, h, _⟩ := h; rw [h]; simp [codeObj]
theorem isFile.lt {base : Nat} {w : World} {f : Nat} (h : isFile base w f) : f < w.heap.size := by
  obtain ⟨_, c, a, b, h, _⟩ := h; exact lt_of_at h
theorem isFile.move {base : Nat} {w w' : World} {f : Nat} (h : isFile base w f) (hb : w'.heap[f]? = w.heap[f]?) : isFile base w' f := by
  obtain ⟨h0, c, a, b, h, hh⟩ := h; exact ⟨h0, c, a, b, hb.trans h, hh⟩

/-- No file's contents have turned. -/
def SameFiles (w w' : World) : Prop := ∀ f c x y, fileAt w f c x y → fileAt w' f c x y
theorem SameFiles.refl (w : World) : SameFiles w w := fun _ _ _ _ h => h
theorem SameFiles.trans {a b c : World} (h : SameFiles a b) (k : SameFiles b c) : SameFiles a c := fun f i x y hf => k f i x y (h f i x y hf)
theorem SameFiles.fresh {a b : World} (k : Fresh a b) : SameFiles a b := fun _ _ _ _ h => k.at h
theorem SameFiles.grown {a b : World} {r : Nat} (k : a.grownBy b (some r)) (h : ∀ cs, a.heap[r]? ≠ some (.cells cs 67 (0, 0))) : SameFiles a b := fun f c x y hf => by
  rw [fileAt, k.block f (lt_of_at hf) (fun e => by cases e; exact h _ hf)]; exact hf

structure Deed where
  src : ByteArray
  dst : ByteArray
  file : Nat
def Deed.cells (d : Deed) : List Value := [.string d.src, .string d.dst, fp d.file]
def cellsOf (l : List Deed) : List Value := l.flatMap Deed.cells
theorem cellsOf_length (l : List Deed) : (cellsOf l).length = l.length * 3 := by
  induction l with
  | nil => rfl
  | cons d l ih => simp only [cellsOf, List.flatMap_cons, List.length_append, List.length_cons] at *; rw [ih]; simp [Deed.cells]; omega
theorem cellsOf_snoc (l : List Deed) (d : Deed) : cellsOf (l ++ [d]) = cellsOf l ++ d.cells := by simp [cellsOf]
/-- What a deed does to a directory: what is gone goes first. -/
def Deed.on (d : Deed) (m : Dir) : Dir := fun s => if d.dst.size ≠ 0 ∧ s = d.dst then some d.file else if d.src.size ≠ 0 ∧ s = d.src then none else m s
def onAll (m : Dir) (l : List Deed) : Dir := l.foldl (fun m d => d.on m) m
theorem onAll_snoc (m : Dir) (l : List Deed) (d : Deed) : onAll m (l ++ [d]) = d.on (onAll m l) := by simp [onAll]

structure St where
  now : Dir
  safe : Dir
  wait : List Deed
  steps : Nat
  left : Int
  down : Bool
def St.has (s : St) (f : Nat) : Prop := (∃ n, s.now n = some f) ∨ (∃ n, s.safe n = some f) ∨ ∃ d ∈ s.wait, d.file = f
structure St.Ok (s : St) : Prop where
  fold : onAll s.safe s.wait = s.now
  named : ∀ d ∈ s.wait, d.src.size ≤ 64 ∧ d.dst.size ≤ 64
  left : -1 ≤ s.left ∧ s.left ≤ 9223372036854775807
/-- Where its parts lie: both directories, what waits, and bounds of their entries. -/
structure Lay where
  bn : Nat
  bs : Nat
  wv : Value
  nn : Nat
  ns : Nat
/-- Block b is a system in state s. -/
structure FsAt (base : Nat) (w : World) (b : Nat) (s : St) (L : Lay) : Prop where
  hb : base ≤ b
  blk : w.heap[b]? = some (.cells #[.map (some L.bn), .map (some L.bs), L.wv, .int .i64 s.steps, .int .i64 s.left, .bool s.down] 53 (0, 0))
  hn : base ≤ L.bn
  hs : base ≤ L.bs
  ne : L.bn ≠ L.bs
  now : dirIs w L.bn L.nn s.now
  safe : dirIs w L.bs L.ns s.safe
  row : w.ownsRow base 70 3 L.wv s.wait.length (cellsOf s.wait)
  len1 : L.nn ≤ s.steps
  len2 : L.ns + s.wait.length ≤ s.steps
  files : ∀ f, s.has f → isFile base w f
  ok : s.Ok
theorem FsAt.cells {base : Nat} {w : World} {b : Nat} {s : St} {L : Lay} (h : FsAt base w b s L) :
    w.cell? ⟨b, 0, none⟩ = some (.map (some L.bn)) ∧ w.cell? ⟨b, 1, none⟩ = some (.map (some L.bs)) ∧ w.cell? ⟨b, 2, none⟩ = some L.wv ∧ w.cell? ⟨b, 3, none⟩ = some (.int .i64 s.steps) ∧ w.cell? ⟨b, 4, none⟩ = some (.int .i64 s.left) ∧ w.cell? ⟨b, 5, none⟩ = some (.bool s.down) := by
  have := h.blk
  simp [World.cell?, this]
theorem FsAt.free {base : Nat} {w : World} {b : Nat} {s : St} {L : Lay} (h : FsAt base w b s L) (i : Nat) (hi : i < 6) : w.frozen? ⟨b, i, none⟩ = false := by
  have := h.blk
  rcases i with _ | _ | _ | _ | _ | _ | i
  all_goals first | omega | simp [World.frozen?, this]
theorem FsAt.code {base : Nat} {w : World} {b : Nat} {s : St} {L : Lay} (h : FsAt base w b s L) : codeObj w.heap[b]? := by rw [h.blk]; simp [codeObj]
theorem FsAt.lt {base : Nat} {w : World} {b : Nat} {s : St} {L : Lay} (h : FsAt base w b s L) : b < w.heap.size := lt_of_at h.blk
/-- Of the system's own blocks nothing has turned. -/
theorem FsAt.move {base : Nat} {w w' : World} {b : Nat} {s : St} {L : Lay} (h : FsAt base w b s L) (k : Fresh w w') : FsAt base w' b s L :=
  ⟨h.hb, k.at h.blk, h.hn, h.hs, h.ne, h.now.move (k.block _ h.now.lt), h.safe.move (k.block _ h.safe.lt), h.row.kept (row := none) ⟨k.os, k.tape, k.output, k.size, fun i hi _ => k.block i hi⟩ (by cases hv : L.wv.ownBlock <;> simp), h.len1, h.len2, fun f hf => (h.files f hf).move (k.block _ (h.files f hf).lt), h.ok⟩
end Go.Proofs.Ytimcoofmemcojaa
