/-
  States of version 2: what is wrong with one, its bytes. No call.
  States of version 2 in memory.
  The state of version 2 of bytes: what is taken. No call.
  What is wrong with a container, by package cktwo.
  What is wrong with a state of version 2, by package cktwo.
  How many, a container, containers: what package cktwo takes.
  The containers that package cktwo takes.
  A pod that package cktwo takes.
  The pods that package cktwo takes.
  What package cktwo's Decode returns.
-/
import Derived.Test.YtphjhlnjfcfdcaaKMath
import Derived.Test.YtphjhlnjfcfdcaaKBase
import Derived.Test.YtphjhlnjfcfdcaaKTakeM
import Derived.Test.YtphjhlnjfcfdcaaKCheck
import Derived.Deep.RegionHeld3
import Derived.Test.YtphjhlnjfcfdcaaKTake
import Derived.Deep.AppendLies
namespace Go.Proofs.Ytphjhlnjfcfdcaa
open Go.ChangeShapes Go.WideShapes Go.ChangeAt Go.RowKit

structure C2 where
  name : ByteArray
  image : ByteArray
structure P2 where
  file : ByteArray
  name : ByteArray
  ns : ByteArray
  r : Int
  g : Int
  cs : List C2
theorem C2.ext {p q : C2} (h1 : p.name = q.name) (h2 : p.image = q.image) : p = q := by
  cases p; cases q; simp_all
def C2.eqB (p q : C2) : Bool := decide (p.name = q.name) && decide (p.image = q.image)
theorem C2.eqB_iff (p q : C2) : C2.eqB p q = true ↔ p = q := by
  unfold C2.eqB
  simp only [Bool.and_eq_true, decide_eq_true_eq]
  exact ⟨fun ⟨a, b⟩ => C2.ext a b, fun h => by subst h; exact ⟨rfl, rfl⟩⟩
def eqC : List C2 → List C2 → Bool
  | [], [] => true
  | p :: l, q :: m => C2.eqB p q && eqC l m
  | _, _ => false
theorem eqC_len : ∀ (a b : List C2), a.length ≠ b.length → eqC a b = false
  | [], [], h => absurd rfl h
  | [], _ :: _, _ => rfl
  | _ :: _, [], _ => rfl
  | x :: a, y :: b, h => by
    rw [eqC, eqC_len a b (fun e => h (by simp [e])), Bool.and_false]
theorem eqC_self : ∀ a : List C2, eqC a a = true
  | [] => rfl
  | p :: l => by rw [eqC, eqC_self l, (C2.eqB_iff p p).2 rfl]; rfl
theorem eqC_drop {a b : List C2} {k : Nat} (h : k < a.length) (h' : k < b.length) : eqC (a.drop k) (b.drop k) = (C2.eqB a[k] b[k] && eqC (a.drop (k + 1)) (b.drop (k + 1))) := by
  rw [List.drop_eq_getElem_cons h, List.drop_eq_getElem_cons h', eqC]
def P2.eqB (p q : P2) : Bool := decide (p.file = q.file) && (decide (p.name = q.name) && (decide (p.ns = q.ns) && (decide (p.r = q.r) && (decide (p.g = q.g) && eqC p.cs q.cs))))
theorem P2.eqB_self (p : P2) : P2.eqB p p = true := by simp [P2.eqB, eqC_self]
def eqP : List P2 → List P2 → Bool
  | [], [] => true
  | p :: l, q :: m => P2.eqB p q && eqP l m
  | _, _ => false
theorem eqP_len : ∀ (a b : List P2), a.length ≠ b.length → eqP a b = false
  | [], [], h => absurd rfl h
  | [], _ :: _, _ => rfl
  | _ :: _, [], _ => rfl
  | x :: a, y :: b, h => by
    rw [eqP, eqP_len a b (fun e => h (by simp [e])), Bool.and_false]
theorem eqP_self : ∀ a : List P2, eqP a a = true
  | [] => rfl
  | p :: l => by rw [eqP, eqP_self l, P2.eqB_self]; rfl
theorem eqP_drop {a b : List P2} {k : Nat} (h : k < a.length) (h' : k < b.length) : eqP (a.drop k) (b.drop k) = (P2.eqB a[k] b[k] && eqP (a.drop (k + 1)) (b.drop (k + 1))) := by
  rw [List.drop_eq_getElem_cons h, List.drop_eq_getElem_cons h', eqP]

/-! ### what is wrong -/
def memN (s : ByteArray) (l : List C2) : Bool := l.any fun c => decide (c.name = s)
def c2E (ahead : List C2) (c : C2) : Int := if labB c.name.data.toList = true then (if memN c.name ahead = true then 8 else if imgB c.image.data.toList = true then 0 else 6) else 13
def cs2E : List C2 → List C2 → Int
  | _, [] => 0
  | ah, c :: r => if c2E ah c = 0 then cs2E (ah ++ [c]) r else c2E ah c
def head2E (p : P2) (ahead : ByteArray) : Int :=
  if fileB p.file = true ∧ nameB p.name.data.toList = true ∧ labB p.ns.data.toList = true then
    (if leS p.file ahead = true then 6 else if 2 < p.r ∨ p.g < 1 ∨ 3600 < p.g then 7 else if p.cs.length = 0 then 16 else if 16 < p.cs.length then 18 else 0)
  else 13
def f2E (p : P2) (ahead : ByteArray) : Int := if head2E p ahead = 0 then cs2E [] p.cs else head2E p ahead
def chk2F : ByteArray → List P2 → Int
  | _, [] => 0
  | a, p :: l => if f2E p a = 0 then chk2F p.file l else f2E p a
def chk2 (l : List P2) : Int := if 1024 < l.length then 18 else chk2F ⟨#[]⟩ l
def ahead2 (l : List P2) (k : Nat) : ByteArray := if k = 0 then ⟨#[]⟩ else (l.map (·.file)).getD (k - 1) ⟨#[]⟩
theorem ahead2_succ (l : List P2) (k : Nat) (h : k < l.length) : ahead2 l (k + 1) = l[k].file := by
  unfold ahead2
  rw [if_neg (by omega), Nat.add_sub_cancel, List.getD_eq_getElem?_getD, List.getElem?_map, List.getElem?_eq_getElem h]; rfl
theorem chk2F_drop {l : List P2} {k : Nat} (h : k < l.length) (a : ByteArray) : chk2F a (l.drop k) = if f2E l[k] a = 0 then chk2F l[k].file (l.drop (k + 1)) else f2E l[k] a := by
  rw [List.drop_eq_getElem_cons h, chk2F]
theorem cs2E_drop {l : List C2} {k : Nat} (h : k < l.length) : cs2E (l.take k) (l.drop k) = if c2E (l.take k) l[k] = 0 then cs2E (l.take (k + 1)) (l.drop (k + 1)) else c2E (l.take k) l[k] := by
  rw [List.drop_eq_getElem_cons h, cs2E, List.take_succ_eq_append_getElem h]
theorem labB_len2 {l : List UInt8} (h : labB l = true) : l.length ≤ 63 := (labB_len h).2
theorem c2E_ok {ah : List C2} {c : C2} (h : c2E ah c = 0) : labB c.name.data.toList = true ∧ imgB c.image.data.toList = true := by
  unfold c2E at h
  split at h
  · rename_i h1
    split at h
    · simp at h
    · split at h
      · rename_i h2; exact ⟨h1, h2⟩
      · simp at h
  · simp at h
theorem cs2E_ok : ∀ (l ah : List C2), cs2E ah l = 0 → ∀ c ∈ l, labB c.name.data.toList = true ∧ imgB c.image.data.toList = true
  | [], _, _, c, hc => by simp at hc
  | d :: l, ah, h, c, hc => by
    rw [cs2E] at h
    split at h
    · rename_i h0
      rcases List.mem_cons.1 hc with rfl | hc
      · exact c2E_ok h0
      · exact cs2E_ok l _ h c hc
    · rename_i h0; exact absurd h h0
structure P2.Good (p : P2) : Prop where
  file : fileB p.file = true
  name : nameB p.name.data.toList = true
  ns : labB p.ns.data.toList = true
  r : p.r ≤ 2
  g0 : 1 ≤ p.g
  g1 : p.g ≤ 3600
  l0 : p.cs.length ≠ 0
  l1 : p.cs.length ≤ 16
  cs : ∀ c ∈ p.cs, labB c.name.data.toList = true ∧ imgB c.image.data.toList = true
theorem f2E_ok {p : P2} {a : ByteArray} (h : f2E p a = 0) : p.Good := by
  unfold f2E at h
  split at h
  · rename_i h0
    unfold head2E at h0
    split at h0
    · rename_i h1
      split at h0
      · simp at h0
      split at h0
      · simp at h0
      split at h0
      · simp at h0
      split at h0
      · simp at h0
      rename_i h2 h3 h4 h5
      exact ⟨h1.1, h1.2.1, h1.2.2, by omega, by omega, by omega, h4, by omega, cs2E_ok _ _ h⟩
    · simp at h0
  · rename_i h0; exact absurd h h0
theorem chk2F_ok : ∀ (l : List P2) (a : ByteArray), chk2F a l = 0 → ∀ p ∈ l, p.Good
  | [], _, _, p, hp => by simp at hp
  | q :: l, a, h, p, hp => by
    rw [chk2F] at h
    split at h
    · rename_i h0
      rcases List.mem_cons.1 hp with rfl | hp
      · exact f2E_ok h0
      · exact chk2F_ok l _ h p hp
    · rename_i h0; exact absurd h h0
/-- Texts no greater than that, a byte, a number of two bytes. -/
structure P2.Fit (b : Nat) (p : P2) : Prop where
  file : p.file.size ≤ b
  name : p.name.size ≤ b
  ns : p.ns.size ≤ b
  r0 : 0 ≤ p.r
  r1 : p.r ≤ 255
  g0 : 0 ≤ p.g
  g1 : p.g ≤ 65535
  cs : ∀ c ∈ p.cs, c.name.size ≤ b ∧ c.image.size ≤ b
theorem P2.Fit.mono {b c : Nat} {p : P2} (h : p.Fit b) (hbc : b ≤ c) : p.Fit c :=
  ⟨Nat.le_trans h.file hbc, Nat.le_trans h.name hbc, Nat.le_trans h.ns hbc, h.r0, h.r1, h.g0, h.g1, fun x hx => ⟨Nat.le_trans (h.cs x hx).1 hbc, Nat.le_trans (h.cs x hx).2 hbc⟩⟩
/-- Numbers as they may be. -/
def P2.Num (p : P2) : Prop := 0 ≤ p.r ∧ p.r ≤ 255 ∧ 0 ≤ p.g ∧ p.g ≤ 65535
theorem chk2_fit {l : List P2} (h : chk2 l = 0) (hn : ∀ p ∈ l, p.Num) : l.length ≤ 1024 ∧ ∀ p ∈ l, p.Fit 255 ∧ p.cs.length ≤ 16 := by
  unfold chk2 at h
  split at h
  · simp at h
  · refine ⟨by omega, fun p hp => ?_⟩
    have hg := chk2F_ok l _ h p hp
    have h1 := (file_one hg.file).2
    have h2 := nameB_len hg.name
    have h3 := labB_len2 hg.ns
    obtain ⟨n1, n2, n3, n4⟩ := hn p hp
    refine ⟨⟨by omega, by rw [Lib.size_eq]; omega, by rw [Lib.size_eq]; omega, n1, n2, n3, n4, fun c hc => ?_⟩, hg.l1⟩
    obtain ⟨h4, h5⟩ := hg.cs c hc
    have h4 := labB_len2 h4
    have h5 := imgB_len h5
    rw [Lib.size_eq, Lib.size_eq]; omega

/-! ### bytes -/
def cL (c : C2) : List UInt8 := txtL c.name ++ txtL c.image
def pod2L (p : P2) : List UInt8 := txtL p.file ++ (txtL p.name ++ (txtL p.ns ++ (be 1 p.r.toNat ++ (be 2 p.g.toNat ++ (be 1 p.cs.length ++ p.cs.flatMap cL)))))
def enc2L (seq : Int) (l : List P2) : List UInt8 := be 8 seq.toNat ++ (be 2 l.length ++ l.flatMap pod2L)
theorem cL_len {c : C2} {b : Nat} (h : c.name.size ≤ b ∧ c.image.size ≤ b) : (cL c).length ≤ 4 + 2 * b := by
  simp only [cL, List.length_append, txtL_len]; omega
theorem pod2L_len {p : P2} (h : p.Fit 255) (hl : p.cs.length ≤ 16) : (pod2L p).length ≤ 9000 := by
  have h1 := flat_le cL 514 p.cs (fun c hc => cL_len (h.cs c hc))
  have h2 : p.cs.length * 514 ≤ 16 * 514 := Nat.mul_le_mul hl (Nat.le_refl _)
  have := h.file; have := h.name; have := h.ns
  simp only [pod2L, List.length_append, txtL_len, be_length]
  omega
end Go.Proofs.Ytphjhlnjfcfdcaa
namespace Go.Proofs.Ytphjhlnjfcfdcaa
open Go.ChangeShapes Go.WideShapes Go.ChangeAt Go.RowKit

def C2.cells (p : C2) : List Value := [.string p.name, .string p.image]
def C2.val (p : C2) : Value := .agg #[.string p.name, .string p.image]
def c2s (l : List C2) : List Value := l.flatMap C2.cells
theorem c2s_len (l : List C2) : (c2s l).length = l.length * 2 := flat_length C2.cells 2 (fun _ => rfl) l
theorem c2s_snoc (l : List C2) (p : C2) : c2s (l ++ [p]) = c2s l ++ [.string p.name, .string p.image] := by simp [c2s, C2.cells]
def C2.lies (w : World) (g o : Nat) (p : C2) : Prop := w.cell? ⟨g, o, none⟩ = some (.string p.name) ∧ w.cell? ⟨g, o + 1, none⟩ = some (.string p.image)
theorem c2_form {w : World} {a : Option Addr} {l : List C2} (h : RowAt w a (c2s l)) {i0 : Nat} (h0 : i0 < l.length) : ∃ g o, a = some ⟨g, o, none⟩ ∧ ∀ i (hi : i < l.length), l[i].lies w g (o + i * 2) := by
  obtain ⟨g, o, e, h⟩ := h.form (fun e => by
    have := c2s_len l
    rw [e] at this
    simp at this; omega)
  have each : ∀ i (hi : i < l.length) j x, j < 2 → l[i].cells[j]? = some x → w.cell? ⟨g, o + i * 2 + j, none⟩ = some x := fun i hi j x hj hx => by
    have := h _ _ ((flat_get C2.cells 2 (fun _ => rfl) l i hi j hj).trans hx)
    rw [Nat.add_assoc]; exact this
  exact ⟨g, o, e, fun i hi => ⟨each i hi 0 _ (by omega) rfl, each i hi 1 _ (by omega) rfl⟩⟩
/-- The first elements of a row are a row. -/
theorem c2_take {w : World} {a : Option Addr} {l : List C2} (h : RowAt w a (c2s l)) (k : Nat) : RowAt w a (c2s (l.take k)) := by
  rcases h with h | ⟨g, o, e, h⟩
  · left
    have h2 := c2s_len l
    rw [h] at h2
    have : l = [] := List.eq_nil_of_length_eq_zero (by simp at h2; omega)
    rw [this]; simp [c2s]
  · refine .inr ⟨g, o, e, fun j x hj => h j x ?_⟩
    have e2 : c2s l = c2s (l.take k) ++ c2s (l.drop k) := by unfold c2s; rw [← List.flatMap_append, List.take_append_drop]
    rw [e2, List.getElem?_append_left (List.getElem?_eq_some_iff.1 hj).1]
    exact hj
/-- A pod, with where its containers lie. -/
structure M2 where
  p : P2
  a : Option Addr
  c : Nat
def M2.cells (m : M2) : List Value := [.string m.p.file, .string m.p.name, .string m.p.ns, .int .u8 m.p.r, .int .u16 m.p.g, .slice m.a m.p.cs.length m.c]
def M2.val (m : M2) : Value := .agg #[.string m.p.file, .string m.p.name, .string m.p.ns, .int .u8 m.p.r, .int .u16 m.p.g, .slice m.a m.p.cs.length m.c]
abbrev M2.obj (m : M2) (t : Nat) : Obj := .cells #[.string m.p.file, .string m.p.name, .string m.p.ns, .int .u8 m.p.r, .int .u16 m.p.g, .slice m.a m.p.cs.length m.c] t
def M2.In (w : World) (m : M2) : Prop := RowAt w m.a (c2s m.p.cs) ∧ m.p.cs.length ≤ m.c
theorem M2.In.move {w w' : World} {m : M2} (h : m.In w) (f : Fresh w w') : m.In w' := ⟨h.1.move f, h.2⟩
def m2s (l : List M2) : List Value := l.flatMap M2.cells
def pods2 (l : List M2) : List P2 := l.map (·.p)
theorem m2s_len (l : List M2) : (m2s l).length = l.length * 6 := flat_length M2.cells 6 (fun _ => rfl) l
theorem m2s_snoc (l : List M2) (m : M2) : m2s (l ++ [m]) = m2s l ++ [.string m.p.file, .string m.p.name, .string m.p.ns, .int .u8 m.p.r, .int .u16 m.p.g, .slice m.a m.p.cs.length m.c] := by simp [m2s, M2.cells]
def M2.lies (w : World) (g o : Nat) (m : M2) : Prop :=
  w.cell? ⟨g, o, none⟩ = some (.string m.p.file) ∧ w.cell? ⟨g, o + 1, none⟩ = some (.string m.p.name) ∧ w.cell? ⟨g, o + 2, none⟩ = some (.string m.p.ns) ∧ w.cell? ⟨g, o + 3, none⟩ = some (.int .u8 m.p.r) ∧ w.cell? ⟨g, o + 4, none⟩ = some (.int .u16 m.p.g) ∧ w.cell? ⟨g, o + 5, none⟩ = some (.slice m.a m.p.cs.length m.c)
theorem m2_form {w : World} {a : Option Addr} {l : List M2} (h : RowAt w a (m2s l)) {i0 : Nat} (h0 : i0 < l.length) : ∃ g o, a = some ⟨g, o, none⟩ ∧ ∀ i (hi : i < l.length), l[i].lies w g (o + i * 6) := by
  obtain ⟨g, o, e, h⟩ := h.form (fun e => by
    have := m2s_len l
    rw [e] at this
    simp at this; omega)
  have each : ∀ i (hi : i < l.length) j x, j < 6 → l[i].cells[j]? = some x → w.cell? ⟨g, o + i * 6 + j, none⟩ = some x := fun i hi j x hj hx => by
    have := h _ _ ((flat_get M2.cells 6 (fun _ => rfl) l i hi j hj).trans hx)
    rw [Nat.add_assoc]; exact this
  exact ⟨g, o, e, fun i hi => ⟨each i hi 0 _ (by omega) rfl, each i hi 1 _ (by omega) rfl, each i hi 2 _ (by omega) rfl, each i hi 3 _ (by omega) rfl, each i hi 4 _ (by omega) rfl, each i hi 5 _ (by omega) rfl⟩⟩
theorem m2_box {w : World} {b t : Nat} {m : M2} (h : w.heap[b]? = some (m.obj t)) : m.lies w b 0 ∧ ∀ i, w.frozen? ⟨b, i, none⟩ = false :=
  ⟨⟨cell_of_at h rfl, cell_of_at h rfl, cell_of_at h rfl, cell_of_at h rfl, cell_of_at h rfl, cell_of_at h rfl⟩, frozen_of_at h⟩
/-- A state's row. -/
structure Row2 (w : World) (a : Option Addr) (l : List M2) : Prop where
  row : RowAt w a (m2s l)
  ins : ∀ m ∈ l, m.In w
theorem Row2.move {w w' : World} {a : Option Addr} {l : List M2} (h : Row2 w a l) (f : Fresh w w') : Row2 w' a l := ⟨h.row.move f, fun m hm => (h.ins m hm).move f⟩
theorem Row2.nil (w : World) (a : Option Addr) : Row2 w a [] := ⟨.nil _ _, by simp⟩
def st2 (seq : Int) (a : Option Addr) (n c : Nat) : Value := .agg #[.int .u64 seq, .slice a n c]
theorem st2_box {w : World} {b t : Nat} {seq : Int} {a : Option Addr} {n c : Nat} (h : w.heap[b]? = some (.cells #[.int .u64 seq, .slice a n c] t)) :
    w.cell? ⟨b, 0, none⟩ = some (.int .u64 seq) ∧ w.cell? ⟨b, 1, none⟩ = some (.slice a n c) ∧ ∀ i, w.frozen? ⟨b, i, none⟩ = false :=
  ⟨cell_of_at h rfl, cell_of_at h rfl, frozen_of_at h⟩
end Go.Proofs.Ytphjhlnjfcfdcaa
namespace Go.Proofs.Ytphjhlnjfcfdcaa
open Go.ChangeShapes Go.WideShapes Go.ChangeAt Go.RowKit

/-! ### so many, one after another -/
section
variable {α : Type} {f : ByteArray → Int → ByteArray × Int × α}
def manyT (f : ByteArray → Int → ByteArray × Int × α) : Nat → ByteArray → Int → ByteArray × Int × List α
  | 0, s, e => (s, e, [])
  | n + 1, s, e => ((manyT f n (f s e).1 (f s e).2.1).1, (manyT f n (f s e).1 (f s e).2.1).2.1, (f s e).2.2 :: (manyT f n (f s e).1 (f s e).2.1).2.2)
/-- With an error nothing is taken. -/
def KeepsE (f : ByteArray → Int → ByteArray × Int × α) : Prop := ∀ s e, e ≠ 0 → (f s e).1 = s ∧ (f s e).2.1 = e
def LessT (f : ByteArray → Int → ByteArray × Int × α) : Prop := ∀ s e, (f s e).1.size ≤ s.size
theorem manyT_err (hf : KeepsE f) : ∀ (n : Nat) {s : ByteArray} {e : Int}, e ≠ 0 → (manyT f n s e).1 = s ∧ (manyT f n s e).2.1 = e
  | 0, _, _, _ => ⟨rfl, rfl⟩
  | n + 1, s, e, h => by
    obtain ⟨h1, h2⟩ := hf s e h
    rw [manyT, h1, h2]
    exact manyT_err hf n h
theorem manyT_less (hf : LessT f) : ∀ (n : Nat) (s : ByteArray) (e : Int), (manyT f n s e).1.size ≤ s.size
  | 0, _, _ => Nat.le_refl _
  | n + 1, s, e => by rw [manyT]; exact Nat.le_trans (manyT_less hf n _ _) (hf s e)
theorem manyT_len : ∀ (n : Nat) (s : ByteArray) (e : Int), (manyT f n s e).2.2.length = n
  | 0, _, _ => rfl
  | n + 1, s, e => by rw [manyT, List.length_cons, manyT_len n]
theorem manyT_all {P : α → Prop} (hf : ∀ s e, P (f s e).2.2) : ∀ (n : Nat) (s : ByteArray) (e : Int), ∀ x ∈ (manyT f n s e).2.2, P x
  | 0, _, _, x, hx => by simp [manyT] at hx
  | n + 1, s, e, x, hx => by
    rw [manyT] at hx
    rcases List.mem_cons.1 hx with h | h
    · rw [h]; exact hf s e
    · exact manyT_all hf n _ _ x h
def aheadM (D : List α) (q : ByteArray × Int × List α) : ByteArray × Int × List α := (q.1, q.2.1, D ++ q.2.2)
theorem manyT_step {n k : Nat} (hk : k < n) {s s1 : ByteArray} {e e1 : Int} {x : α} (h : f s e = (s1, e1, x)) (D : List α) :
    aheadM D (manyT f (n - k) s e) = aheadM (D ++ [x]) (manyT f (n - (k + 1)) s1 e1) := by
  obtain ⟨m, hm⟩ : ∃ m, n - k = m + 1 := ⟨n - k - 1, by omega⟩
  rw [hm, show n - (k + 1) = m by omega, manyT, h]
  simp [aheadM]
/-- What a list comes to. -/
def gotM (e : Int) (L : List α) : List α := if e = 0 then L else []
end
/-! ### how many -/
def upT (s : ByteArray) (e n most : Int) : ByteArray × Int × Int := if most < (takeT s e n).2.2 then ((takeT s e n).1, 18, 0) else takeT s e n
theorem upT_err {s : ByteArray} {e n most : Int} (h : e ≠ 0) (hm : 0 ≤ most) : upT s e n most = (s, e, 0) := by
  unfold upT
  rw [takeT_err h, if_neg (by show ¬ most < 0; omega)]
theorem upT_val (s : ByteArray) (e : Int) (m : Nat) (most : Int) : 0 ≤ (upT s e m most).2.2 ∧ (upT s e m most).2.2 < 256 ^ m ∧ (0 ≤ most → (upT s e m most).2.2 ≤ most) := by
  have h := take_val s e m
  unfold upT
  split
  · exact ⟨Int.le_refl _, Int.lt_of_le_of_lt h.1 h.2, fun h => h⟩
  · exact ⟨h.1, h.2, fun _ => by omega⟩
theorem upT_less (s : ByteArray) (e n most : Int) : (upT s e n most).1.size ≤ s.size := by
  have h : (takeT s e n).1.size ≤ s.size := take_len (s1 := (takeT s e n).1) (e1 := (takeT s e n).2.1) (v := (takeT s e n).2.2) rfl
  unfold upT
  split <;> exact h
/-- Where something is wrong, none. -/
theorem upT_zero {s s1 : ByteArray} {e e1 n most v : Int} (h : upT s e n most = (s1, e1, v)) (he : e1 ≠ 0) : v = 0 := by
  unfold upT at h
  split at h
  · cases h; rfl
  · unfold takeT at h
    split at h
    · cases h; rfl
    split at h
    · cases h; rfl
    split at h
    · cases h; rfl
    · cases h; exact absurd rfl he
/-! ### a container, a pod -/
def contT (s : ByteArray) (e : Int) : ByteArray × Int × C2 :=
  ((textT (textT s e).1 (textT s e).2.1).1, (textT (textT s e).1 (textT s e).2.1).2.1, ⟨(textT s e).2.2, (textT (textT s e).1 (textT s e).2.1).2.2⟩)
theorem contT_eq {s s1 s2 x1 x2 : ByteArray} {e e1 e2 : Int} (h1 : textT s e = (s1, e1, x1)) (h2 : textT s1 e1 = (s2, e2, x2)) : contT s e = (s2, e2, ⟨x1, x2⟩) := by
  simp only [contT, h1, h2]
theorem textT_len' (s : ByteArray) (e : Int) : (textT s e).1.size ≤ s.size ∧ (textT s e).2.2.size ≤ 4096 := textT_len (s1 := (textT s e).1) (e1 := (textT s e).2.1) (x := (textT s e).2.2) rfl
theorem contT_keeps : KeepsE contT := fun s e h => by
  rw [contT_eq (textT_err h) (textT_err h)]; exact ⟨rfl, rfl⟩
theorem contT_less : LessT contT := fun _ _ => Nat.le_trans (textT_len' _ _).1 (textT_len' _ _).1
theorem contT_fit (s : ByteArray) (e : Int) : (contT s e).2.2.name.size ≤ 4096 ∧ (contT s e).2.2.image.size ≤ 4096 := ⟨(textT_len' _ _).2, (textT_len' _ _).2⟩
/-- The takes of a pod, told. -/
structure Pod2T (s : ByteArray) (e : Int) (s1 s2 s3 s4 s5 s6 s7 x1 x2 x3 : ByteArray) (e1 e2 e3 e4 e5 e6 e7 v g n : Int) (L : List C2) : Prop where
  h1 : textT s e = (s1, e1, x1)
  h2 : textT s1 e1 = (s2, e2, x2)
  h3 : textT s2 e2 = (s3, e3, x3)
  h4 : takeT s3 e3 1 = (s4, e4, v)
  h5 : takeT s4 e4 2 = (s5, e5, g)
  h6 : upT s5 e5 1 16 = (s6, e6, n)
  h7 : manyT contT n.toNat s6 e6 = (s7, e7, L)
/-- A pod behind its three texts. -/
def pod2N (s : ByteArray) (e : Int) (x1 x2 x3 : ByteArray) : ByteArray × Int × P2 :=
  ((manyT contT (upT (takeT (takeT s e 1).1 (takeT s e 1).2.1 2).1 (takeT (takeT s e 1).1 (takeT s e 1).2.1 2).2.1 1 16).2.2.toNat (upT (takeT (takeT s e 1).1 (takeT s e 1).2.1 2).1 (takeT (takeT s e 1).1 (takeT s e 1).2.1 2).2.1 1 16).1 (upT (takeT (takeT s e 1).1 (takeT s e 1).2.1 2).1 (takeT (takeT s e 1).1 (takeT s e 1).2.1 2).2.1 1 16).2.1).1,
   (manyT contT (upT (takeT (takeT s e 1).1 (takeT s e 1).2.1 2).1 (takeT (takeT s e 1).1 (takeT s e 1).2.1 2).2.1 1 16).2.2.toNat (upT (takeT (takeT s e 1).1 (takeT s e 1).2.1 2).1 (takeT (takeT s e 1).1 (takeT s e 1).2.1 2).2.1 1 16).1 (upT (takeT (takeT s e 1).1 (takeT s e 1).2.1 2).1 (takeT (takeT s e 1).1 (takeT s e 1).2.1 2).2.1 1 16).2.1).2.1,
   ⟨x1, x2, x3, (takeT s e 1).2.2, (takeT (takeT s e 1).1 (takeT s e 1).2.1 2).2.2,
    (manyT contT (upT (takeT (takeT s e 1).1 (takeT s e 1).2.1 2).1 (takeT (takeT s e 1).1 (takeT s e 1).2.1 2).2.1 1 16).2.2.toNat (upT (takeT (takeT s e 1).1 (takeT s e 1).2.1 2).1 (takeT (takeT s e 1).1 (takeT s e 1).2.1 2).2.1 1 16).1 (upT (takeT (takeT s e 1).1 (takeT s e 1).2.1 2).1 (takeT (takeT s e 1).1 (takeT s e 1).2.1 2).2.1 1 16).2.1).2.2⟩)
def pod2T (s : ByteArray) (e : Int) : ByteArray × Int × P2 :=
  pod2N (textT (textT (textT s e).1 (textT s e).2.1).1 (textT (textT s e).1 (textT s e).2.1).2.1).1 (textT (textT (textT s e).1 (textT s e).2.1).1 (textT (textT s e).1 (textT s e).2.1).2.1).2.1
    (textT s e).2.2 (textT (textT s e).1 (textT s e).2.1).2.2 (textT (textT (textT s e).1 (textT s e).2.1).1 (textT (textT s e).1 (textT s e).2.1).2.1).2.2
theorem pod2T_eq {s s1 s2 s3 s4 s5 s6 s7 x1 x2 x3 : ByteArray} {e e1 e2 e3 e4 e5 e6 e7 v g n : Int} {L : List C2} (h : Pod2T s e s1 s2 s3 s4 s5 s6 s7 x1 x2 x3 e1 e2 e3 e4 e5 e6 e7 v g n L) :
    pod2T s e = (s7, e7, ⟨x1, x2, x3, v, g, L⟩) := by
  simp only [pod2T, pod2N, h.h1, h.h2, h.h3, h.h4, h.h5, h.h6, h.h7]
theorem pod2T_ex (s : ByteArray) (e : Int) : ∃ s1 s2 s3 s4 s5 s6 s7 x1 x2 x3 e1 e2 e3 e4 e5 e6 e7 v g n L, Pod2T s e s1 s2 s3 s4 s5 s6 s7 x1 x2 x3 e1 e2 e3 e4 e5 e6 e7 v g n L :=
  ⟨_, _, _, _, _, _, _, _, _, _, _, _, _, _, _, _, _, _, _, _, _, rfl, rfl, rfl, rfl, rfl, rfl, rfl⟩
section
variable {s s1 s2 s3 s4 s5 s6 s7 x1 x2 x3 : ByteArray} {e e1 e2 e3 e4 e5 e6 e7 v g n : Int} {L : List C2}
theorem Pod2T.vals (h : Pod2T s e s1 s2 s3 s4 s5 s6 s7 x1 x2 x3 e1 e2 e3 e4 e5 e6 e7 v g n L) : (0 ≤ v ∧ v ≤ 255) ∧ (0 ≤ g ∧ g ≤ 65535) ∧ 0 ≤ n ∧ n ≤ 16 := by
  have a := take_val s3 e3 1
  have b := take_val s4 e4 2
  have c := upT_val s5 e5 1 16
  rw [show ((1 : Nat) : Int) = 1 from rfl, h.h4] at a
  rw [show ((2 : Nat) : Int) = 2 from rfl, h.h5] at b
  rw [show ((1 : Nat) : Int) = 1 from rfl, h.h6] at c
  have a2 : v < 256 := a.2
  have b2 : g < 65536 := b.2
  exact ⟨⟨a.1, by omega⟩, ⟨b.1, by omega⟩, c.1, c.2.2 (by decide)⟩
theorem Pod2T.le (h : Pod2T s e s1 s2 s3 s4 s5 s6 s7 x1 x2 x3 e1 e2 e3 e4 e5 e6 e7 v g n L) :
    s1.size ≤ s.size ∧ s2.size ≤ s.size ∧ s3.size ≤ s.size ∧ s4.size ≤ s.size ∧ s5.size ≤ s.size ∧ s6.size ≤ s.size ∧ s7.size ≤ s.size := by
  have a1 := textT_len h.h1
  have a2 := textT_len h.h2
  have a3 := textT_len h.h3
  have a4 := take_len h.h4
  have a5 := take_len h.h5
  have a6 := upT_less s5 e5 1 16
  have a7 := manyT_less contT_less n.toNat s6 e6
  rw [h.h6] at a6
  rw [h.h7] at a7
  dsimp only at a6 a7
  omega
theorem Pod2T.len (h : Pod2T s e s1 s2 s3 s4 s5 s6 s7 x1 x2 x3 e1 e2 e3 e4 e5 e6 e7 v g n L) : L.length = n.toNat := by
  have := manyT_len (f := contT) n.toNat s6 e6
  rw [h.h7] at this
  exact this
theorem Pod2T.fit (h : Pod2T s e s1 s2 s3 s4 s5 s6 s7 x1 x2 x3 e1 e2 e3 e4 e5 e6 e7 v g n L) : P2.Fit 4096 ⟨x1, x2, x3, v, g, L⟩ := by
  have b := h.vals
  refine ⟨(textT_len h.h1).2, (textT_len h.h2).2, (textT_len h.h3).2, b.1.1, b.1.2, b.2.1.1, b.2.1.2, fun c hc => ?_⟩
  have := manyT_all (f := contT) (P := fun c => c.name.size ≤ 4096 ∧ c.image.size ≤ 4096) contT_fit n.toNat s6 e6 c
  rw [h.h7] at this
  exact this hc
end
theorem pod2T_keeps : KeepsE pod2T := fun s e h => by
  have hu : upT s e 1 16 = (s, e, 0) := upT_err h (by decide)
  rw [pod2T_eq (s7 := s) (e7 := e) (L := []) ⟨textT_err h, textT_err h, textT_err h, takeT_err h, takeT_err h, hu, rfl⟩]; exact ⟨rfl, rfl⟩
theorem pod2T_less : LessT pod2T := fun s e => by
  obtain ⟨s1, s2, s3, s4, s5, s6, s7, x1, x2, x3, e1, e2, e3, e4, e5, e6, e7, v, g, n, L, h⟩ := pod2T_ex s e
  rw [pod2T_eq h]
  exact h.le.2.2.2.2.2.2
theorem pod2T_fit (s : ByteArray) (e : Int) : (pod2T s e).2.2.Fit 4096 ∧ (pod2T s e).2.2.cs.length ≤ 16 := by
  obtain ⟨s1, s2, s3, s4, s5, s6, s7, x1, x2, x3, e1, e2, e3, e4, e5, e6, e7, v, g, n, L, h⟩ := pod2T_ex s e
  rw [pod2T_eq h]
  refine ⟨h.fit, ?_⟩
  have h1 := h.len
  have h2 := h.vals
  show L.length ≤ 16
  omega
/-! ### a state -/
structure Dec2T (b s1 s2 s3 : ByteArray) (e1 e2 e3 q n : Int) (L : List P2) : Prop where
  h1 : takeT b 0 8 = (s1, e1, q)
  h2 : upT s1 e1 2 1024 = (s2, e2, n)
  h3 : manyT pod2T n.toNat s2 e2 = (s3, e3, L)
def dec2E (e3 q : Int) (s3 : ByteArray) (L : List P2) : Int × Int × List P2 :=
  if endT s3 e3 ≠ 0 then (endT s3 e3, 0, []) else if chk2 L ≠ 0 then (chk2 L, 0, []) else (0, q, L)
def dec2 (b : ByteArray) : Int × Int × List P2 :=
  dec2E (manyT pod2T (upT (takeT b 0 8).1 (takeT b 0 8).2.1 2 1024).2.2.toNat (upT (takeT b 0 8).1 (takeT b 0 8).2.1 2 1024).1 (upT (takeT b 0 8).1 (takeT b 0 8).2.1 2 1024).2.1).2.1 (takeT b 0 8).2.2
    (manyT pod2T (upT (takeT b 0 8).1 (takeT b 0 8).2.1 2 1024).2.2.toNat (upT (takeT b 0 8).1 (takeT b 0 8).2.1 2 1024).1 (upT (takeT b 0 8).1 (takeT b 0 8).2.1 2 1024).2.1).1
    (manyT pod2T (upT (takeT b 0 8).1 (takeT b 0 8).2.1 2 1024).2.2.toNat (upT (takeT b 0 8).1 (takeT b 0 8).2.1 2 1024).1 (upT (takeT b 0 8).1 (takeT b 0 8).2.1 2 1024).2.1).2.2
theorem dec2T_ex (b : ByteArray) : ∃ s1 s2 s3 e1 e2 e3 q n L, Dec2T b s1 s2 s3 e1 e2 e3 q n L := ⟨_, _, _, _, _, _, _, _, _, rfl, rfl, rfl⟩
section
variable {b s1 s2 s3 : ByteArray} {e1 e2 e3 q n : Int} {L : List P2}
theorem dec2_eq (h : Dec2T b s1 s2 s3 e1 e2 e3 q n L) : dec2 b = dec2E e3 q s3 L := by
  simp only [dec2, h.h1, h.h2, h.h3]
theorem Dec2T.vals (h : Dec2T b s1 s2 s3 e1 e2 e3 q n L) : (0 ≤ q ∧ q ≤ 18446744073709551615) ∧ 0 ≤ n ∧ n ≤ 1024 := by
  have a := take_val b 0 8
  have c := upT_val s1 e1 2 1024
  rw [show ((8 : Nat) : Int) = 8 from rfl, h.h1] at a
  rw [show ((2 : Nat) : Int) = 2 from rfl, h.h2] at c
  have a2 : q < 18446744073709551616 := a.2
  exact ⟨⟨a.1, by omega⟩, c.1, c.2.2 (by decide)⟩
theorem Dec2T.le (h : Dec2T b s1 s2 s3 e1 e2 e3 q n L) : s1.size ≤ b.size ∧ s2.size ≤ b.size := by
  have a := take_len h.h1
  have c := upT_less s1 e1 2 1024
  rw [h.h2] at c
  dsimp only at c
  omega
theorem Dec2T.zero (h : Dec2T b s1 s2 s3 e1 e2 e3 q n L) (he : e2 ≠ 0) : n = 0 := upT_zero h.h2 he
theorem Dec2T.fit (h : Dec2T b s1 s2 s3 e1 e2 e3 q n L) : (∀ p ∈ L, p.Fit 4096 ∧ p.cs.length ≤ 16) ∧ L.length = n.toNat := by
  have h1 := manyT_all (f := pod2T) (P := fun p => p.Fit 4096 ∧ p.cs.length ≤ 16) pod2T_fit n.toNat s2 e2
  have h2 := manyT_len (f := pod2T) n.toNat s2 e2
  rw [h.h3] at h1 h2
  exact ⟨h1, h2⟩
end
theorem dec2_fit (b : ByteArray) : (∀ p ∈ (dec2 b).2.2, p.Fit 4096 ∧ p.cs.length ≤ 16) ∧ (dec2 b).2.2.length ≤ 1024 ∧ 0 ≤ (dec2 b).2.1 ∧ (dec2 b).2.1 ≤ 18446744073709551615 := by
  obtain ⟨s1, s2, s3, e1, e2, e3, q, n, L, hD⟩ := dec2T_ex b
  have hv := hD.vals
  have hf := hD.fit
  rw [dec2_eq hD, dec2E]
  split
  · exact ⟨by simp, by simp, by simp, by simp⟩
  split
  · exact ⟨by simp, by simp, by simp, by simp⟩
  · exact ⟨hf.1, by show L.length ≤ 1024; rw [hf.2]; omega, hv.1.1, hv.1.2⟩
end Go.Proofs.Ytphjhlnjfcfdcaa
namespace Go.Proofs.Ytphjhlnjfcfdcaa
open Go.ChangeShapes Go.WideShapes Go.ChangeAt Go.RowKit
set_option maxRecDepth 100000

theorem c2_box {w : World} {b t : Nat} {c : C2} (h : w.heap[b]? = some (.cells #[.string c.name, .string c.image] t)) : w.cell? ⟨b, 0, none⟩ = some (.string c.name) ∧ w.cell? ⟨b, 1, none⟩ = some (.string c.image) ∧ ∀ i, w.frozen? ⟨b, i, none⟩ = false :=
  ⟨cell_of_at h rfl, cell_of_at h rfl, frozen_of_at h⟩
theorem isC_any (d : C2) (s : ByteArray) (b : Nat) (w : World) (hb : w.cell? ⟨b, 0, none⟩ = some (.string s)) :
    Calls Try.prog 95 #[d.val, .pointer (some ⟨b, 0, none⟩)] w fun e w' => e = .returned (.bool (decide (d.name = s))) ∧ Fresh w w' := by
  obtain ⟨nm, im⟩ := d
  have hbl := World.block_lt_of_cell? w _ hb
  have HF := Lib.hid ((Fresh.refl w).alloc (.cells #[.string nm, .string im] 100))
  dsimp only [C2.val] at *
  by_cases h : nm = s
  · subst h
    have HR : Hid (decide (nm = nm) = true) := by rw [Hid, decide_eq_true rfl]
    go_enter Try.func95, Try.ntmps95
    go_wp2
    go_ret
    exact ⟨ret_bool HR.out.symm, HF.out⟩
  · have e1 := tl_ne h
    have HR : Hid (decide (nm = s) = false) := by rw [Hid, decide_eq_false h]
    clear h
    go_enter Try.func95, Try.ntmps95
    go_wp2
    go_ret
    exact ⟨ret_bool HR.out.symm, HF.out⟩
set_option maxHeartbeats 2000000 in
theorem indexC_any (l : List C2) (a : Option Addr) (c : Nat) (s : ByteArray) (b : Nat) (w : World) (hr : RowAt w a (c2s l)) (hb : w.cell? ⟨b, 0, none⟩ = some (.string s)) (hl : l.length ≤ 4000000) :
    Calls Try.prog 101 #[.slice a l.length c, .func (.func 95) #[] #[.pointer (some ⟨b, 0, none⟩)]] w fun e w' => ∃ i : Int, e = .returned (.int .i64 i) ∧ decide (0 ≤ i) = memN s l ∧ Fresh w w' := by
  have HROW := Lib.hid hr
  have HB := Lib.hid hb
  clear hr hb
  go_enter Try.func101, Try.ntmps101
  go_wp2
  go_loopw [8] (fun a8 wr => ∃ (k : Nat), a8 = .int .i64 (k : Int) ∧ k ≤ l.length ∧ Hid (memN s (l.take k) = false) ∧ Hid (Fresh w wr)) (fun a8 _ => l.length - (intOf a8).toNat)
  case atStart => exact ⟨0, rfl, Nat.zero_le _, rfl, Fresh.refl _⟩
  case round =>
    obtain ⟨k, rfl, hk, HM, HF⟩ := hrel
    by_cases hlt : k < l.length
    · obtain ⟨g, o1, rfl, hc⟩ := c2_form (HROW.out.move HF.out) hlt
      obtain ⟨c0, c1⟩ := hc k hlt
      have HCL := Lib.hid (isC_any l[k] s b wr (HF.out.cell HB.out))
      have HTK : Hid (memN s (l.take (k + 1)) = (memN s (l.take k) || decide (l[k].name = s))) := by rw [Hid, memN, List.take_succ_eq_append_getElem hlt, List.any_append]; simp [memN]
      have HYES : Hid (decide (l[k].name = s) = true → memN s l = true) := fun h => by
        unfold memN
        rw [List.any_eq_true]
        exact ⟨l[k], List.getElem_mem hlt, h⟩
      have i1 : (0 : Int) ≤ (k : Int) := by omega
      have i2 : (k : Int) < (l.length : Int) := by omega
      clear hc
      generalize decide (l[k].name = s) = D at *
      generalize l[k] = d at *
      obtain ⟨nm, im⟩ := d
      dsimp only [C2.val] at *
      cases D with
      | true =>
        have HR := Lib.hid (HYES.out rfl)
        clear HYES HTK
        go_wp2_with (fail)
        all_goals try (exfalso; omega)
        refine HCL.out.mono ?_
        rintro e w1 ⟨rfl, hf⟩
        have HF2 := Lib.hid (HF.out.trans hf)
        clear hf
        go_wp2
        go_ret
        exact ⟨_, rfl, by rw [HR.out, decide_eq_true i1], HF2.out⟩
      | false =>
        have HN : Hid (memN s (l.take (k + 1)) = false) := by rw [Hid, HTK.out, HM.out]; rfl
        clear HYES HTK
        go_wp2_with (fail)
        all_goals try (exfalso; omega)
        refine HCL.out.mono ?_
        rintro e w1 ⟨rfl, hf⟩
        have HF2 := Lib.hid (HF.out.trans hf)
        clear hf
        go_wp2
        go_roundw
        case rel => exact ⟨k + 1, by simp, by omega, HN.out, HF2.out⟩
        case measure => simp [intOf]; omega
    · obtain rfl : k = l.length := by omega
      have HR : Hid (memN s l = false) := by have := HM.out; rw [List.take_length] at this; exact this
      go_wp2
      all_goals try (exfalso; omega)
      go_ret
      exact ⟨_, rfl, by rw [HR.out]; rfl, HF.out⟩
theorem containsC_any (l : List C2) (a : Option Addr) (c : Nat) (s : ByteArray) (b : Nat) (w : World) (hr : RowAt w a (c2s l)) (hb : w.cell? ⟨b, 0, none⟩ = some (.string s)) (hl : l.length ≤ 4000000) :
    Calls Try.prog 94 #[.slice a l.length c, .func (.func 95) #[] #[.pointer (some ⟨b, 0, none⟩)]] w fun e w' => e = .returned (.bool (memN s l)) ∧ Fresh w w' := by
  have HI := Lib.hid (indexC_any l a c s b w hr hb hl)
  clear hr hb hl
  generalize l.length = n at *
  generalize memN s l = M at *
  go_enter Try.func94, Try.ntmps94
  go_wp2_with (fail)
  refine HI.out.mono ?_
  rintro e w1 ⟨i, rfl, hi, hf⟩
  go_wp2
  go_ret
  first | exact ⟨rfl, hf⟩ | exact ⟨ret_bool hi, hf⟩
set_option maxHeartbeats 2000000 in
theorem faultC_any (d : C2) (l : List C2) (a : Option Addr) (c : Nat) (w : World) (hr : RowAt w a (c2s l)) (hl : l.length ≤ 4000000) (h1 : d.name.size ≤ maxLen) (h2 : d.image.size ≤ maxLen) :
    Calls Try.prog 78 #[d.val, .slice a l.length c] w fun e w' => e = .returned (.int .i64 (c2E l d)) ∧ Fresh w w' := by
  obtain ⟨nm, im⟩ := d
  have HA := Lib.hid (at_new w (.cells #[.string nm, .string im] 100))
  have HF0 := Lib.hid ((Fresh.refl w).alloc (.cells #[.string nm, .string im] 100))
  have HLB := Lib.hid (fun W => label_any nm W h1)
  have HIM := Lib.hid (fun W => image_any im W h2)
  have HCO := Lib.hid (containsC_any l a c nm w.heap.size _ (hr.move HF0.out) (cell_of_at HA.out rfl) hl)
  have HE : Hid (c2E l ⟨nm, im⟩ = if labB nm.data.toList = true then (if memN nm l = true then 8 else if imgB im.data.toList = true then 0 else 6) else 13) := rfl
  dsimp only [C2.val] at *
  clear hr hl h1 h2
  generalize c2E l ⟨nm, im⟩ = E at *
  generalize memN nm l = M at *
  generalize l.length = n at *
  cases hlb : labB nm.data.toList with
  | false =>
    rw [hlb] at HLB
    have HR : Hid (E = 13) := by rw [Hid, HE.out, if_neg (by rw [hlb]; simp)]
    clear HE hlb
    go_enter Try.func78, Try.ntmps78
    go_wp2_with (fail)
    refine (HLB.out _).mono ?_
    rintro e w1 ⟨rfl, rfl⟩
    go_wp2
    go_ret
    exact ⟨ret_int HR.out.symm, HF0.out⟩
  | true =>
    rw [hlb] at HLB
    have HE2 : Hid (E = if M = true then 8 else if imgB im.data.toList = true then 0 else 6) := by rw [Hid, HE.out, if_pos hlb]
    clear HE hlb
    go_enter Try.func78, Try.ntmps78
    go_wp2_with (fail)
    refine (HLB.out _).mono ?_
    rintro e w1 ⟨rfl, rfl⟩
    go_wp2_with (fail)
    refine HCO.out.mono ?_
    rintro e w1 ⟨rfl, hf⟩
    obtain ⟨q0, q1, _⟩ := c2_box (c := ⟨nm, im⟩) (hf.at HA.out)
    have HF := Lib.hid (HF0.out.trans hf)
    clear hf
    cases M with
    | true =>
      have HR : Hid (E = 8) := by rw [Hid, HE2.out, if_pos rfl]
      go_wp2
      go_ret
      exact ⟨ret_int HR.out.symm, HF.out⟩
    | false =>
      have HE3 : Hid (E = if imgB im.data.toList = true then 0 else 6) := by rw [Hid, HE2.out, if_neg (by simp)]
      go_wp2_with (fail)
      refine (HIM.out _).mono ?_
      rintro e w2 ⟨rfl, rfl⟩
      cases him : imgB im.data.toList with
      | true =>
        have HR : Hid (E = 0) := by rw [Hid, HE3.out, if_pos him]
        go_wp2
        go_ret
        exact ⟨ret_int HR.out.symm, HF.out⟩
      | false =>
        have HR : Hid (E = 6) := by rw [Hid, HE3.out, if_neg (by rw [him]; simp)]
        go_wp2
        go_ret
        exact ⟨ret_int HR.out.symm, HF.out⟩
end Go.Proofs.Ytphjhlnjfcfdcaa
namespace Go.Proofs.Ytphjhlnjfcfdcaa
open Go.ChangeShapes Go.WideShapes Go.ChangeAt Go.RowKit
set_option maxRecDepth 100000

theorem head2_in {p : P2} {a : ByteArray} (h : fileB p.file = true ∧ nameB p.name.data.toList = true ∧ labB p.ns.data.toList = true) :
    head2E p a = if leS p.file a = true then 6 else if 2 < p.r ∨ p.g < 1 ∨ 3600 < p.g then 7 else if p.cs.length = 0 then 16 else if 16 < p.cs.length then 18 else 0 := by rw [head2E, if_pos h]
set_option maxHeartbeats 8000000 in
theorem fault2_any (m : M2) (ahead : ByteArray) (w : World) (hin : m.In w) (hp : m.p.Fit maxLen) :
    Calls Try.prog 55 #[m.val, .string ahead] w fun e w' => e = .returned (.int .i64 (f2E m.p ahead)) ∧ Fresh w w' := by
  obtain ⟨⟨file, name, ns, r, g, cs⟩, a, c⟩ := m
  have HFI := Lib.hid (fun W => file_any file W hp.file)
  have HNM := Lib.hid (fun W => name_tx name W hp.name)
  have HNS := Lib.hid (fun W => label_any ns W hp.ns)
  have HE : Hid (f2E ⟨file, name, ns, r, g, cs⟩ ahead = if head2E ⟨file, name, ns, r, g, cs⟩ ahead = 0 then cs2E (cs.take 0) (cs.drop 0) else head2E ⟨file, name, ns, r, g, cs⟩ ahead) := rfl
  have HH : Hid (head2E ⟨file, name, ns, r, g, cs⟩ ahead = if fileB file = true ∧ nameB name.data.toList = true ∧ labB ns.data.toList = true then
    (if leS file ahead = true then 6 else if 2 < r ∨ g < 1 ∨ 3600 < g then 7 else if cs.length = 0 then 16 else if 16 < cs.length then 18 else 0) else 13) := rfl
  have HLE : Hid (leS file ahead = (Op.bytesLess file.toList ahead.toList || file.toList == ahead.toList)) := rfl
  have hr0 : 0 ≤ r := hp.r0
  have hg0 : 0 ≤ g := hp.g0
  have hrow : RowAt w a (c2s cs) := hin.1
  have hcap : cs.length ≤ c := hin.2
  have HCF : Hid (∀ x ∈ cs, x.name.size ≤ maxLen ∧ x.image.size ≤ maxLen) := hp.cs
  have HA := Lib.hid (at_new w (.cells #[.string file, .string name, .string ns, .int .u8 r, .int .u16 g, .slice a cs.length c] 98))
  have HF0 := Lib.hid ((Fresh.refl w).alloc (.cells #[.string file, .string name, .string ns, .int .u8 r, .int .u16 g, .slice a cs.length c] 98))
  have HROW := Lib.hid hrow
  dsimp only [M2.val] at *
  clear hp hin hrow
  generalize f2E ⟨file, name, ns, r, g, cs⟩ ahead = E at *
  generalize head2E ⟨file, name, ns, r, g, cs⟩ ahead = H at *
  generalize leS file ahead = L at *
  generalize hx1 : Op.bytesLess file.toList ahead.toList = x1 at *
  generalize hx2 : (file.toList == ahead.toList) = x2 at *
  have H13 : Hid (¬ (fileB file = true ∧ nameB name.data.toList = true ∧ labB ns.data.toList = true) → E = 13) := fun h => by
    have : H = 13 := by rw [HH.out, if_neg h]
    rw [HE.out, this, if_neg (by decide)]
  cases hf : fileB file with
  | false =>
    rw [hf] at HFI
    have HR := Lib.hid (H13.out (by rw [hf]; simp))
    clear HE HH H13 hf hx1 hx2
    go_enter Try.func55, Try.ntmps55
    go_wp2_with (fail)
    refine (HFI.out _).mono ?_
    rintro e w1 ⟨rfl, rfl⟩
    go_wp2
    go_ret
    exact ⟨ret_int HR.out.symm, HF0.out⟩
  | true =>
  rw [hf] at HFI
  cases hn : nameB name.data.toList with
  | false =>
    rw [hn] at HNM
    have HR := Lib.hid (H13.out (by rw [hn]; simp))
    clear HE HH H13 hf hn hx1 hx2
    go_enter Try.func55, Try.ntmps55
    go_wp2_with (fail)
    refine (HFI.out _).mono ?_
    rintro e w1 ⟨rfl, rfl⟩
    go_wp2_with (fail)
    refine (HNM.out _).mono ?_
    rintro e w1 ⟨rfl, hf⟩
    have HF := Lib.hid (HF0.out.trans hf)
    clear hf
    go_wp2
    go_ret
    exact ⟨ret_int HR.out.symm, HF.out⟩
  | true =>
  rw [hn] at HNM
  cases hs : labB ns.data.toList with
  | false =>
    rw [hs] at HNS
    have HR := Lib.hid (H13.out (by rw [hs]; simp))
    clear HE HH H13 hf hn hs hx1 hx2
    go_enter Try.func55, Try.ntmps55
    go_wp2_with (fail)
    refine (HFI.out _).mono ?_
    rintro e w1 ⟨rfl, rfl⟩
    go_wp2_with (fail)
    refine (HNM.out _).mono ?_
    rintro e w1 ⟨rfl, hf⟩
    have HF := Lib.hid (HF0.out.trans hf)
    obtain ⟨⟨q0, q1, q2, q3, q4, q5⟩, _⟩ := m2_box (m := ⟨⟨file, name, ns, r, g, cs⟩, a, c⟩) (hf.at HA.out)
    clear hf
    dsimp only at q0 q1 q2 q3 q4 q5
    go_wp2_with (fail)
    refine (HNS.out _).mono ?_
    rintro e w2 ⟨rfl, rfl⟩
    go_wp2
    go_ret
    exact ⟨ret_int HR.out.symm, HF.out⟩
  | true =>
  rw [hs] at HNS
  have HH2 : Hid (H = if L = true then 6 else if 2 < r ∨ g < 1 ∨ 3600 < g then 7 else if cs.length = 0 then 16 else if 16 < cs.length then 18 else 0) := by rw [Hid, HH.out, if_pos ⟨hf, hn, hs⟩]
  clear HH H13 hf hn hs
  have HBAD : Hid (∀ k : Int, H = k → k ≠ 0 → E = k) := fun k h h0 => by rw [HE.out, h, if_neg h0]
  go_enter Try.func55, Try.ntmps55
  go_wp2_with (fail)
  refine (HFI.out _).mono ?_
  rintro e w1 ⟨rfl, rfl⟩
  go_wp2_with (fail)
  refine (HNM.out _).mono ?_
  rintro e w1 ⟨rfl, hf⟩
  have HF := Lib.hid (HF0.out.trans hf)
  have HA1 := Lib.hid (hf.at HA.out)
  obtain ⟨⟨q0, q1, q2, q3, q4, q5⟩, _⟩ := m2_box (m := ⟨⟨file, name, ns, r, g, cs⟩, a, c⟩) HA1.out
  dsimp only at q0 q1 q2 q3 q4 q5
  clear hf HA HF0
  obtain ⟨b, hb⟩ : ∃ b, b = w.heap.size := ⟨_, rfl⟩
  rw [← hb] at q0 q1 q2 q3 q4 q5 HA1 ⊢
  clear hb
  go_wp2_with (fail)
  refine (HNS.out _).mono ?_
  rintro e w2 ⟨rfl, rfl⟩
  cases hl : (x1 || x2) with
  | true =>
    have HR := Lib.hid (HBAD.out 6 (by rw [HH2.out, HLE.out, hl, if_pos rfl]) (by decide))
    clear HH2 HLE HE HBAD
    cases x1 <;> cases x2 <;> simp at hl <;> (go_wp2; go_ret; exact ⟨ret_int HR.out.symm, HF.out⟩)
  | false =>
  have HH3 : Hid (H = if 2 < r ∨ g < 1 ∨ 3600 < g then 7 else if cs.length = 0 then 16 else if 16 < cs.length then 18 else 0) := by rw [Hid, HH2.out, HLE.out, hl, if_neg (by simp)]
  clear HH2 HLE
  simp only [Bool.or_eq_false_iff] at hl
  obtain ⟨rfl, rfl⟩ := hl
  by_cases hrg : 2 < r ∨ g < 1 ∨ 3600 < g
  · have HR := Lib.hid (HBAD.out 7 (by rw [HH3.out, if_pos hrg]) (by decide))
    clear HH3 HE HBAD
    by_cases h1 : 2 < r
    · go_wp2
      all_goals try (exfalso; omega)
      go_ret
      exact ⟨ret_int HR.out.symm, HF.out⟩
    by_cases h2 : g < 1
    · go_wp2
      all_goals try (exfalso; omega)
      go_ret
      exact ⟨ret_int HR.out.symm, HF.out⟩
    have h3 : 3600 < g := by omega
    go_wp2
    all_goals try (exfalso; omega)
    go_ret
    exact ⟨ret_int HR.out.symm, HF.out⟩
  have h1 : ¬ 2 < r := by omega
  have h2 : ¬ g < 1 := by omega
  have h3 : ¬ 3600 < g := by omega
  have HH4 : Hid (H = if cs.length = 0 then 16 else if 16 < cs.length then 18 else 0) := by rw [Hid, HH3.out, if_neg hrg]
  clear HH3 hrg
  by_cases h0 : cs.length = 0
  · have HR := Lib.hid (HBAD.out 16 (by rw [HH4.out, if_pos h0]) (by decide))
    have e0 : ((cs.length : Int) == 0) = true := by rw [beq_iff_eq]; omega
    clear HH4 HE HBAD
    go_wp2
    all_goals try (exfalso; omega)
    go_ret
    exact ⟨ret_int HR.out.symm, HF.out⟩
  have e0 : ((cs.length : Int) == 0) = false := by rw [beq_eq_false_iff_ne]; omega
  by_cases h16 : 16 < cs.length
  · have HR := Lib.hid (HBAD.out 18 (by rw [HH4.out, if_neg h0, if_pos h16]) (by decide))
    clear HH4 HE HBAD
    go_wp2
    all_goals try (exfalso; omega)
    go_ret
    exact ⟨ret_int HR.out.symm, HF.out⟩
  have HC : Hid (E = cs2E (cs.take 0) (cs.drop 0)) := by
    have : H = 0 := by rw [HH4.out, if_neg h0, if_neg h16]
    rw [Hid, HE.out, if_pos this]
  clear HH4 HE HBAD
  have HROW1 := Lib.hid (HROW.out.move HF.out)
  go_wp2
  all_goals try (exfalso; omega)
  clear q0 q1 q2 q3 q4 q5 hx1 hx2
  go_loopw [57] (fun a57 wr => ∃ (k : Nat), a57 = .int .i64 (k : Int) ∧ k ≤ cs.length ∧ Hid (E = cs2E (cs.take k) (cs.drop k)) ∧ Hid (Fresh w1 wr)) (fun a57 _ => cs.length - (intOf a57).toNat)
  case atStart => exact ⟨0, rfl, Nat.zero_le _, HC.out, Fresh.refl _⟩
  case round =>
    clear HC
    obtain ⟨k, rfl, hk, HE, HFk⟩ := hrel
    by_cases hlt : k < cs.length
    · have hrowk := HROW1.out.move HFk.out
      obtain ⟨gg, o1, rfl, hc⟩ := c2_form hrowk hlt
      obtain ⟨c0, c1⟩ := hc k hlt
      have hb5 := cell_of_at (HFk.out.at HA1.out) (i := 5) rfl
      have hbl := lt_of_at (HFk.out.at HA1.out)
      have HSTEP := Lib.hid (HE.out.trans (cs2E_drop hlt))
      have htl : (cs.take k).length = k := by rw [List.length_take]; omega
      have HFC : Hid (∀ W, Fresh wr W → Calls Try.prog 78 #[cs[k].val, .slice (some ⟨gg, o1, none⟩) k c] W fun e w' => e = .returned (.int .i64 (c2E (cs.take k) cs[k])) ∧ Fresh W w') := fun W f => by
        have := faultC_any cs[k] (cs.take k) (some ⟨gg, o1, none⟩) c W ((c2_take hrowk k).move f) (by omega) (HCF.out _ (List.getElem_mem hlt)).1 (HCF.out _ (List.getElem_mem hlt)).2
        rw [htl] at this
        exact this
      clear hc hrowk htl
      generalize c2E (cs.take k) cs[k] = F at *
      generalize cs[k] = d at *
      obtain ⟨nm, im⟩ := d
      dsimp only [C2.val] at *
      have i1 : (0 : Int) ≤ (k : Int) := by omega
      have i2 : (k : Int) < (cs.length : Int) := by omega
      have i3 : (k : Int) ≤ (c : Int) := by omega
      have HP := Lib.hid (at_new wr (.cells #[.string nm, .string im] 100))
      have HFa := Lib.hid ((Fresh.refl wr).alloc (.cells #[.string nm, .string im] 100))
      go_wp2_with (fail)
      all_goals try (exfalso; omega)
      generalize wr.alloc (.cells #[.string nm, .string im] 100) = V1 at *
      obtain ⟨z, hz⟩ : ∃ z, z = wr.heap.size := ⟨_, rfl⟩
      rw [← hz] at HP ⊢
      clear hz c0 c1 hb5 hbl
      have HKP : Hid (∀ W, Fresh V1 W → W.cell? ⟨z, 0, none⟩ = some (.string nm) ∧ W.cell? ⟨z, 1, none⟩ = some (.string im) ∧ W.cell? ⟨b, 5, none⟩ = some (.slice (some ⟨gg, o1, none⟩) cs.length c)) := fun W f =>
        ⟨(c2_box (c := ⟨nm, im⟩) (f.at HP.out)).1, (c2_box (c := ⟨nm, im⟩) (f.at HP.out)).2.1, cell_of_at (f.at (HFa.out.at (HFk.out.at HA1.out))) (i := 5) rfl⟩
      obtain ⟨k0, k1, k2⟩ := HKP.out V1 (.refl _)
      have HK : Hid (Fresh V1 V1.drew) := (Fresh.refl V1).drew
      go_region_held3 (fun w' => (w'.cell? ⟨z, 0, none⟩ = some (.string nm) ∧ w'.cell? ⟨z, 1, none⟩ = some (.string im) ∧ w'.cell? ⟨b, 5, none⟩ = some (.slice (some ⟨gg, o1, none⟩) cs.length c))) (go_keep)
        (first | (go_at_call 78; (with_reducible refine (HFC.out _ (HFa.out.trans HK.out)).mono ?_); rintro e W2 ⟨rfl, hf⟩; have HK := Lib.hid (HK.out.trans hf); obtain ⟨k0, k1, k2⟩ := HKP.out _ HK.out; clear hf))
      have HF2 := Lib.hid ((HFk.out.trans HFa.out).trans HK.out)
      clear k0 k1 k2 HK HKP HFa HP HFC
      by_cases hF : F = 0
      · subst hF
        have HN : Hid (E = cs2E (cs.take (k + 1)) (cs.drop (k + 1))) := by rw [Hid, HSTEP.out, if_pos rfl]
        clear HSTEP
        go_wp2
        go_roundw
        case rel => exact ⟨k + 1, by simp, by omega, HN.out, HF2.out⟩
        case measure => simp [intOf]; omega
      · have HR : Hid (E = F) := by rw [Hid, HSTEP.out, if_neg hF]
        have e1 : (F == 0) = false := by rw [beq_eq_false_iff_ne]; exact hF
        clear HSTEP
        go_wp2
        all_goals try (exfalso; omega)
        go_ret
        exact ⟨ret_int HR.out.symm, HF.out.trans HF2.out⟩
    · obtain rfl : k = cs.length := by omega
      have HR : Hid (E = 0) := by rw [Hid, HE.out, List.drop_of_length_le (Nat.le_refl _)]; rfl
      go_wp2
      all_goals try (exfalso; omega)
      go_ret
      exact ⟨ret_int HR.out.symm, HF.out.trans HFk.out⟩
set_option maxHeartbeats 2000000 in
theorem check2_any (seq : Int) (a : Option Addr) (l : List M2) (c : Nat) (w : World) (h : Row2 w a l) (hf : ∀ m ∈ l, m.p.Fit maxLen) :
    Calls Try.prog 27 #[st2 seq a l.length c] w fun e w' => e = .returned (.int .i64 (chk2 (pods2 l))) ∧ Fresh w w' := by
  have HROW := Lib.hid h
  have HFT := Lib.hid hf
  have hpl : (pods2 l).length = l.length := by simp [pods2]
  have HC : Hid (chk2 (pods2 l) = if 1024 < l.length then 18 else chk2F (ahead2 (pods2 l) 0) ((pods2 l).drop 0)) := by rw [Hid, chk2, hpl]; rfl
  have HA := Lib.hid (at_new w (.cells #[.int .u64 seq, .slice a l.length c] 49))
  have HF0 := Lib.hid ((Fresh.refl w).alloc (.cells #[.int .u64 seq, .slice a l.length c] 49))
  dsimp only [st2]
  clear h hf
  generalize chk2 (pods2 l) = E at *
  by_cases hm : 1024 < l.length
  · have HR : Hid (E = 18) := by rw [Hid, HC.out, if_pos hm]
    clear HC
    go_enter Try.func27, Try.ntmps27
    go_wp2
    all_goals try (exfalso; omega)
    go_ret
    exact ⟨ret_int HR.out.symm, HF0.out⟩
  · have HC2 : Hid (E = chk2F (ahead2 (pods2 l) 0) ((pods2 l).drop 0)) := by rw [Hid, HC.out, if_neg hm]
    clear HC
    go_enter Try.func27, Try.ntmps27
    go_wp2
    all_goals try (exfalso; omega)
    generalize w.alloc (.cells #[.int .u64 seq, .slice a l.length c] 49) = W0 at *
    go_loopw [3, 14] (fun a3 a14 wr => ∃ (k : Nat), a14 = .int .i64 (k : Int) ∧ a3 = .string (ahead2 (pods2 l) k) ∧ k ≤ l.length ∧ Hid (E = chk2F (ahead2 (pods2 l) k) ((pods2 l).drop k)) ∧ Hid (Fresh W0 wr)) (fun _ a14 _ => l.length - (intOf a14).toNat)
    case atStart => exact ⟨0, rfl, rfl, Nat.zero_le _, HC2.out, Fresh.refl _⟩
    case round =>
      obtain ⟨k, rfl, rfl, hk, HE, HF⟩ := hrel
      by_cases hlt : k < l.length
      · have hR := (HROW.out.move HF0.out).move HF.out
        obtain ⟨g, o1, rfl, hc⟩ := m2_form hR.row hlt
        obtain ⟨c0, c1, c2, c3, c4, c5⟩ := hc k hlt
        have HFA : Hid (∀ W, Fresh wr W → Calls Try.prog 55 #[l[k].val, .string (ahead2 (pods2 l) k)] W fun e w' => e = .returned (.int .i64 (f2E l[k].p (ahead2 (pods2 l) k))) ∧ Fresh W w') := fun W f => fault2_any l[k] (ahead2 (pods2 l) k) W ((hR.ins _ (List.getElem_mem hlt)).move f) (HFT.out _ (List.getElem_mem hlt))
        have hkp : k < (pods2 l).length := by omega
        have hpk : (pods2 l)[k] = l[k].p := by simp [pods2]
        have HSTEP : Hid (E = if f2E l[k].p (ahead2 (pods2 l) k) = 0 then chk2F l[k].p.file ((pods2 l).drop (k + 1)) else f2E l[k].p (ahead2 (pods2 l) k)) := by
          have := HE.out.trans (chk2F_drop hkp _)
          rw [hpk] at this; exact this
        have HAH : Hid (ahead2 (pods2 l) (k + 1) = l[k].p.file) := by have := ahead2_succ (pods2 l) k hkp; rw [hpk] at this; exact this
        clear hc hR hkp hpk
        generalize f2E l[k].p (ahead2 (pods2 l) k) = F at *
        generalize ahead2 (pods2 l) k = ah at *
        generalize l[k] = m at *
        obtain ⟨⟨file, name, ns, r, gr, cs⟩, ca, cc⟩ := m
        dsimp only [M2.val] at *
        generalize cs.length = n at *
        have HP := Lib.hid (at_new wr (.cells #[.string file, .string name, .string ns, .int .u8 r, .int .u16 gr, .slice ca n cc] 98))
        have HF1 := Lib.hid ((Fresh.refl wr).alloc (.cells #[.string file, .string name, .string ns, .int .u8 r, .int .u16 gr, .slice ca n cc] 98))
        by_cases hF : F = 0
        · subst hF
          have HN : Hid (E = chk2F file ((pods2 l).drop (k + 1))) := by rw [Hid, HSTEP.out, if_pos rfl]
          clear HSTEP
          go_wp2_with (fail)
          all_goals try (exfalso; omega)
          refine (HFA.out _ HF1.out).mono ?_
          rintro e w1 ⟨rfl, hf⟩
          have q0 := cell_of_at (hf.at HP.out) (i := 0) rfl
          have HF2 := Lib.hid ((HF.out.trans HF1.out).trans hf)
          clear hf
          go_wp2
          go_roundw
          case rel => exact ⟨k + 1, by simp, by rw [HAH.out], by omega, by rw [HAH.out]; exact HN.out, HF2.out⟩
          case measure => simp [intOf]; omega
        · have HR : Hid (E = F) := by rw [Hid, HSTEP.out, if_neg hF]
          have e0 : (F == 0) = false := by rw [beq_eq_false_iff_ne]; exact hF
          clear HSTEP
          go_wp2_with (fail)
          all_goals try (exfalso; omega)
          refine (HFA.out _ HF1.out).mono ?_
          rintro e w1 ⟨rfl, hf⟩
          have HF2 := Lib.hid ((HF.out.trans HF1.out).trans hf)
          clear hf
          go_wp2
          all_goals try (exfalso; omega)
          go_ret
          exact ⟨ret_int HR.out.symm, HF0.out.trans HF2.out⟩
      · obtain rfl : k = l.length := by omega
        have HR : Hid (E = 0) := by rw [Hid, HE.out, List.drop_of_length_le (by omega)]; rfl
        go_wp2
        all_goals try (exfalso; omega)
        go_ret
        exact ⟨ret_int HR.out.symm, HF0.out.trans HF.out⟩
end Go.Proofs.Ytphjhlnjfcfdcaa
namespace Go.Proofs.Ytphjhlnjfcfdcaa
open Go.ChangeShapes Go.WideShapes Go.ChangeAt Go.RowKit
set_option maxRecDepth 100000

theorem Moved.cell {b : Nat} {w w' : World} {s : ByteArray} {e : Int} (m : Moved b w w' s e) {g i : Nat} {v : Value} (h : w.cell? ⟨g, i, none⟩ = some v) (hne : g ≠ b) : w'.cell? ⟨g, i, none⟩ = some v := by
  have := m.block g (World.block_lt_of_cell? w _ h) hne
  simp only [World.cell?, this] at h ⊢
  exact h
theorem cell_set_ne {W : World} {g i : Nat} {x u : Value} {z j : Nat} (h : W.cell? ⟨g, i, none⟩ = some x) (hne : g ≠ z) : (W.setCell ⟨z, j, none⟩ u).cell? ⟨g, i, none⟩ = some x := by
  rw [World.cell?_setCell_other (a := ⟨z, j, none⟩) (b := ⟨g, i, none⟩) (h := fun e => hne (congrArg Addr.block e).symm)]
  exact h
theorem Moved.off {b : Nat} {w w1 : World} {s : ByteArray} {e : Int} (h : Moved b w w1 s e) {z : Nat} (hz : w.heap.size ≤ z) (hb : b < w.heap.size) (i : Nat) (u : Value) : Moved b w (w1.setCell ⟨z, i, none⟩ u) s e := by
  refine ⟨?_, h.os, h.tape, h.output, by simpa [World.setCell] using h.size, fun k hk hn => ?_⟩
  · exact at_off h.isT (by show b ≠ z; omega) _
  · rw [Below.heap_setCell _ _ _ _ (by show k ≠ z; omega)]; exact h.block k hk hn
theorem upto1_any (b b3 b4 b5 : Nat) (s s1 : ByteArray) (e e1 n most v : Int) (w : World) (hs : s.size ≤ maxLen) (ht : atT w b s e) (h : upT s e n most = (s1, e1, v))
    (c3 : w.cell? ⟨b3, 0, none⟩ = some (.pointer (some ⟨b, 0, none⟩))) (c4 : w.cell? ⟨b4, 0, none⟩ = some (.int .i64 n)) (c5 : w.cell? ⟨b5, 0, none⟩ = some (.int .u64 most)) (n3 : b3 ≠ b) (n5 : b5 ≠ b) :
    Calls Try.prog 80 #[.pointer (some ⟨b3, 0, none⟩), .pointer (some ⟨b4, 0, none⟩), .pointer (some ⟨b5, 0, none⟩)] w fun r w' => r = .returned (.int .u64 v) ∧ Moved b w w' s1 e1 := by
  obtain ⟨t1, t2, t3, htk⟩ : ∃ t1 t2 t3, takeT s e n = (t1, t2, t3) := ⟨_, _, _, rfl⟩
  have HT := Lib.hid (take_at w hs ht htk)
  have HC3 := Lib.hid c3
  have HC5 := Lib.hid c5
  have HU : Hid ((if most < t3 then (t1, 18, 0) else (t1, t2, t3)) = (s1, e1, v)) := by
    have := h
    unfold upT at this
    rw [htk] at this
    exact this
  clear h htk ht hs
  by_cases hm : most < t3
  · have HR : Hid ((t1, (18 : Int), (0 : Int)) = (s1, e1, v)) := by have := HU.out; rwa [if_pos hm] at this
    obtain ⟨r1, r2, r3⟩ : t1 = s1 ∧ (18 : Int) = e1 ∧ (0 : Int) = v := by have := HR.out; simpa using this
    subst r1 r2 r3
    clear HU HR
    go_enter Try.func80, Try.ntmps80
    go_wp2_with (fail)
    refine HT.out.mono ?_
    rintro r w1 ⟨rfl, hm1⟩
    have q3 := hm1.cell HC3.out n3
    have q5 := hm1.cell HC5.out n5
    obtain ⟨k0, k1, f0, f1⟩ := atT_facts hm1.isT
    have HM := Lib.hid hm1
    clear hm1 c3 c4 c5
    go_wp2
    all_goals try (exfalso; omega)
    go_ret
    exact ⟨rfl, HM.out.error 18⟩
  · obtain ⟨r1, r2, r3⟩ : t1 = s1 ∧ t2 = e1 ∧ t3 = v := by
      have := HU.out
      rw [if_neg hm] at this
      simpa using this
    subst r1 r2 r3
    clear HU
    go_enter Try.func80, Try.ntmps80
    go_wp2_with (fail)
    refine HT.out.mono ?_
    rintro r w1 ⟨rfl, hm1⟩
    have q3 := hm1.cell HC3.out n3
    have q5 := hm1.cell HC5.out n5
    have HM := Lib.hid hm1
    clear hm1 c3 c4 c5
    go_wp2
    all_goals try (exfalso; omega)
    go_ret
    exact ⟨rfl, HM.out⟩
set_option maxHeartbeats 2000000 in
theorem cont1_any (b b1 : Nat) (s s1 : ByteArray) (e e1 : Int) (x : C2) (w : World) (hs : s.size ≤ maxLen) (ht : atT w b s e) (h : contT s e = (s1, e1, x))
    (c1 : w.cell? ⟨b1, 0, none⟩ = some (.pointer (some ⟨b, 0, none⟩))) (n1 : b1 ≠ b) :
    Calls Try.prog 96 #[.pointer (some ⟨b1, 0, none⟩)] w fun r w' => r = .returned x.val ∧ Moved b w w' s1 e1 := by
  obtain ⟨t1, f1, x1, h1⟩ : ∃ t1 f1 x1, textT s e = (t1, f1, x1) := ⟨_, _, _, rfl⟩
  obtain ⟨t2, f2, x2, h2⟩ : ∃ t2 f2 x2, textT t1 f1 = (t2, f2, x2) := ⟨_, _, _, rfl⟩
  obtain ⟨r1, r2, r3⟩ : t2 = s1 ∧ f2 = e1 ∧ (⟨x1, x2⟩ : C2) = x := by
    have := (contT_eq h1 h2).symm.trans h
    simpa using this
  subst r1 r2 r3
  have hbl := atT_lt ht
  have hb1l := World.block_lt_of_cell? w _ c1
  dsimp only at hb1l
  have ht0 : atT (w.alloc (.cells #[.string ⟨#[]⟩, .string ⟨#[]⟩] 100)) b s e := at_alloc ht
  have HM0 : Hid (Moved b w (w.alloc (.cells #[.string ⟨#[]⟩, .string ⟨#[]⟩] 100)).drew s e) := ((Moved.refl ht).fresh hbl ((Fresh.refl w).alloc _)).fresh (atT_lt ht0) ((Fresh.refl _).drew)
  have HA := Lib.hid (at_new w (.cells #[.string ⟨#[]⟩, .string ⟨#[]⟩] 100))
  have HC1 := Lib.hid (((Fresh.refl w).alloc (.cells #[.string ⟨#[]⟩, .string ⟨#[]⟩] 100)).cell c1)
  have HH1 := Lib.hid h1
  have HH2 := Lib.hid h2
  have hl := (textT_len h1).1
  clear h h1 h2 ht ht0 c1
  dsimp only [C2.val]
  go_enter Try.func96, Try.ntmps96
  go_wp2_with (fail)
  generalize w.alloc (.cells #[.string ⟨#[]⟩, .string ⟨#[]⟩] 100) = W0 at *
  obtain ⟨z, hz⟩ : ∃ z, z = w.heap.size := ⟨_, rfl⟩
  rw [← hz] at HA ⊢
  have hzb : z ≠ b := by omega
  have hb1z : b1 ≠ z := by omega
  have HZW := Lib.hid hz
  clear hz
  have k1 := HC1.out
  have HA : Hid (W0.drew.heap[z]? = some (.cells #[.string ⟨#[]⟩, .string ⟨#[]⟩] 100)) := HA.out
  have HM := Lib.hid HM0.out
  clear HC1 HM0
  go_region_held3 (fun w' => (w'.cell? ⟨b1, 0, none⟩ = some (.pointer (some ⟨b, 0, none⟩)))) (first | go_keep | exact cell_set_ne (cell_set_ne k1 hb1z) hb1z)
    (first
      | (go_at_call 75; (with_reducible refine (ttext_at _ hs HM.out.isT HH1.out).mono ?_); rintro r W2 ⟨rfl, hm⟩; have k1 := hm.cell k1 n1; have HA := Lib.hid ((hm.block z (lt_of_at HA.out) hzb).trans HA.out); have HM := Lib.hid (HM.out.trans hm); clear hm)
      | (go_at_call 75; (with_reducible refine (ttext_at _ (Nat.le_trans hl hs) HM.out.isT HH2.out).mono ?_); rintro r W2 ⟨rfl, hm⟩; have k1 := hm.cell k1 n1; have HA := Lib.hid ((hm.block z (lt_of_at HA.out) hzb).trans HA.out); have HM := Lib.hid (HM.out.trans hm); clear hm; have q0 := cell_of_at HA.out (i := 0) rfl; have q1 := cell_of_at HA.out (i := 1) rfl; have g0 := frozen_of_at HA.out 0; have g1 := frozen_of_at HA.out 1))
  all_goals go_wp2
  refine bodyPost_ret (v := .agg #[.string x1, .string x2]) (by simp [results, Try.results96, go_sem, *]) rfl ?_
  exact ⟨rfl, (HM.out.off (by have := HZW.out; omega) hbl _ _).off (by have := HZW.out; omega) hbl _ _⟩
end Go.Proofs.Ytphjhlnjfcfdcaa
namespace Go.Proofs.Ytphjhlnjfcfdcaa
open Go.ChangeShapes Go.WideShapes Go.ChangeAt Go.RowKit
set_option maxRecDepth 100000

theorem infoC : (Try.prog.info? 100).map (fun i => (i.zero, i.size, i.bytes)) = some (some (.agg #[.string ⟨#[]⟩, .string ⟨#[]⟩]), 2, 32) := by kernel_rfl
theorem RowAt.keep {w w' : World} {a : Option Addr} {cs : List Value} (h : RowAt w a cs) (hb : ∀ ad : Addr, a = some ad → w'.heap[ad.block]? = w.heap[ad.block]?) : RowAt w' a cs := by
  rcases h with h | ⟨g, o, e, h⟩
  · exact .inl h
  · refine .inr ⟨g, o, e, fun j x hj => ?_⟩
    have h1 := h j x hj
    have h2 := hb _ e
    dsimp only at h2
    simp only [World.cell?, h2] at h1 ⊢
    exact h1
/-- The closures of upTo and of container. -/
def upV (b3 b4 b5 : Nat) : Value := .func (.func 80) #[] #[.pointer (some ⟨b3, 0, none⟩), .pointer (some ⟨b4, 0, none⟩), .pointer (some ⟨b5, 0, none⟩)]
def contV (b1 : Nat) : Value := .func (.func 96) #[] #[.pointer (some ⟨b1, 0, none⟩)]
set_option maxHeartbeats 4000000 in
theorem listC_any (b b1 b3 b4 b5 : Nat) (s s2 s3 : ByteArray) (e e2 e3 m most n : Int) (L : List C2) (w : World) (hs : s.size ≤ maxLen) (ht : atT w b s e) (h2 : upT s e m most = (s2, e2, n)) (h3 : manyT contT n.toNat s2 e2 = (s3, e3, L)) (hn0 : 0 ≤ n) (hn1 : n ≤ 1024)
    (c1 : w.cell? ⟨b1, 0, none⟩ = some (.pointer (some ⟨b, 0, none⟩))) (c3 : w.cell? ⟨b3, 0, none⟩ = some (.pointer (some ⟨b, 0, none⟩))) (c4 : w.cell? ⟨b4, 0, none⟩ = some (.int .i64 m)) (c5 : w.cell? ⟨b5, 0, none⟩ = some (.int .u64 most)) (n1 : b1 ≠ b) (n3 : b3 ≠ b) (n5 : b5 ≠ b) :
    Calls Try.prog 82 #[.pointer (some ⟨b, 0, none⟩), .func (.func 80) #[] #[.pointer (some ⟨b3, 0, none⟩), .pointer (some ⟨b4, 0, none⟩), .pointer (some ⟨b5, 0, none⟩)], .func (.func 96) #[] #[.pointer (some ⟨b1, 0, none⟩)]] w
      fun r w' => ∃ a c, r = .returned (.slice a (gotM e3 L).length c) ∧ RowAt w' a (c2s (gotM e3 L)) ∧ (gotM e3 L).length ≤ c ∧ (∀ ad : Addr, a = some ad → w.heap.size ≤ ad.block ∧ ad.block < w'.heap.size) ∧ Moved b w w' s3 e3 := by
  have hb := atT_lt ht
  have HT := Lib.hid (upto1_any b b3 b4 b5 s s2 e e2 m most n w hs ht h2 c3 c4 c5 n3 n5)
  have hs2 : s2.size ≤ maxLen := by have := upT_less s e m most; rw [h2] at this; exact Nat.le_trans this hs
  have HZ0 := Lib.hid (fun h => upT_zero h2 h)
  have HC1 := Lib.hid c1
  clear ht h2 hs c3 c4 c5
  obtain ⟨N, rfl⟩ := Int.eq_ofNat_of_zero_le hn0
  rw [Int.toNat_natCast] at h3
  have H3 : Hid (manyT contT N s2 e2 = (s3, e3, L)) := h3
  have HZ : Hid (e2 ≠ 0 → N = 0) := fun h => by have := HZ0.out h; omega
  have hN : N ≤ 1024 := by omega
  clear h3 HZ0 hn0 hn1 c1
  obtain ⟨i0, hi, hz0, hz1, hz2⟩ := info_parts infoC
  go_enter Try.func82, Try.ntmps82
  go_wp2_with (fail)
  refine HT.out.mono ?_
  rintro r w1 ⟨rfl, hm1⟩
  have HM := Lib.hid hm1
  have hbw : w.heap.size ≤ w1.heap.size := hm1.size
  have HS2 : Hid (s2.size ≤ maxLen) := hs2
  clear hm1 hs2
  go_wp2
  all_goals try (exfalso; omega)
  go_loopw [7, 10] (fun a7 a10 wr => ∃ (k : Nat) (s : ByteArray) (e : Int) (o : Option Addr) (c : Nat) (D : List C2), a10 = .int .u64 (k : Int) ∧ a7 = .slice o k c ∧ k ≤ N ∧ Hid (e ≠ 0 → N = 0) ∧ Hid (s.size ≤ maxLen) ∧ Hid (D.length = k) ∧ Hid (manyT contT N s2 e2 = aheadM D (manyT contT (N - k) s e)) ∧ Hid (wr.ownsRow w.heap.size 100 2 (.slice o k c) k (c2s D)) ∧ Hid (Moved b w wr s e)) (fun _ a10 _ => N - (intOf a10).toNat)
  case atStart => exact ⟨0, s2, e2, none, 0, [], rfl, rfl, Nat.zero_le _, HZ.out, HS2.out, rfl, rfl, World.ownsRow_nil _ _ _ _, HM.out⟩
  case round =>
    clear HM HZ HS2
    obtain ⟨k, s, e, o, c, D, rfl, rfl, hk, HZ, HS, HD, HE, HOW, HM⟩ := hrel
    by_cases hlt : k < N
    · obtain rfl : e = 0 := Classical.byContradiction fun h => by have := HZ.out h; omega
      obtain ⟨s4, e4, x, hx⟩ : ∃ s4 e4 x, contT s 0 = (s4, e4, x) := ⟨_, _, _, rfl⟩
      have HST := Lib.hid (HE.out.trans (manyT_step hlt hx D))
      have HL4 : Hid (s4.size ≤ maxLen) := by have := contT_less s 0; rw [hx] at this; exact Nat.le_trans this HS.out
      have HCT := Lib.hid (cont1_any b b1 s s4 0 e4 x wr HS.out HM.out.isT hx (HM.out.cell HC1.out n1) n1)
      clear hx HE
      obtain ⟨x1, x2⟩ := x
      dsimp only [C2.val] at *
      go_wp2_with (fail)
      all_goals try (exfalso; omega)
      refine HCT.out.mono ?_
      rintro r w5 ⟨rfl, hm2⟩
      have HO := Lib.hid (own_moved HOW.out hm2 hb)
      have HM := Lib.hid (HM.out.trans hm2)
      clear hm2 HCT
      have HN := Lib.hid (news7 w5 100 [.string x1, .string x2])
      have HW5 : Hid (w.heap.size ≤ w5.heap.size) := HM.out.size
      go_wp2_with (at_builtin; refine Hid.out ?_)
      refine Lib.hid ?_
      refine wpList_append_own _ rfl _ _ 96 rfl w.heap.size 100 i0 (.agg #[.string ⟨#[]⟩, .string ⟨#[]⟩]) 2 32 Try.underlying96 hi hz0 hz1 hz2 rfl (by decide) _ k _ rfl (World.ownsRow.alloc HO.out _) ⟨w5.heap.size, 0, none⟩ 1 1 [.string x1, .string x2] rfl rfl HN.out (by simp [Value.oneCell']) (by unfold maxLen; omega) (by omega) (by rw [World.size_alloc]; have := HW5.out; omega) ?_
      intro v' w6 hown' hgrow _
      obtain ⟨g', cap', rfl⟩ := ownsRow_succ hown'
      have hm6 := (HM.out.fresh (atT_lt HM.out.isT) ((Fresh.refl w5).alloc (.cells #[.string x1, .string x2] 100))).grown hgrow (fun g e => (World.ownsRow.lt HO.out g e).1) hb
      obtain ⟨k0, k1, f0, f1⟩ := atT_facts hm6.isT
      have HM6 := Lib.hid hm6
      have HOWN := Lib.hid hown'
      clear hown' hgrow hm6
      by_cases he : e4 = 0
      · subst he
        go_wp2
        go_roundw
        case rel =>
          refine ⟨k + 1, s4, 0, some ⟨g', 0, none⟩, cap', D ++ ([⟨x1, x2⟩] : List C2), by simp, by simp, by omega, fun h => absurd rfl h, HL4.out, ?_, HST.out, ?_, HM6.out⟩
          · rw [Hid, List.length_append, HD.out]; rfl
          · rw [c2s_snoc]; exact HOWN.out
        case measure => simp [intOf]; omega
      · have e0 : (e4 != 0) = true := by simpa using he
        have HR : Hid (s3 = s4 ∧ e3 = e4) := by
          have h1 := H3.out.symm.trans HST.out
          have h2 := manyT_err contT_keeps (N - (k + 1)) (s := s4) he
          simp only [aheadM, Prod.mk.injEq] at h1
          exact ⟨h1.1.trans h2.1, h1.2.1.trans h2.2⟩
        have HG : Hid (gotM e3 L = []) := by rw [Hid, gotM, HR.out.2, if_neg he]
        go_wp2
        go_ret
        refine ⟨none, 0, ?_, ?_, ?_, (fun _ h => nomatch h), ?_⟩
        · rw [HG.out]; rfl
        · rw [HG.out]; exact .nil _ _
        · rw [HG.out]; exact Nat.le_refl _
        · rw [HR.out.1, HR.out.2]; exact HM6.out
    · obtain rfl : k = N := by omega
      have HR : Hid (s3 = s ∧ e3 = e ∧ L = D) := by
        have h1 := H3.out.symm.trans HE.out
        rw [Nat.sub_self] at h1
        simp only [aheadM, manyT, Prod.mk.injEq, List.append_nil] at h1
        exact h1
      have HG : Hid (gotM e3 L = D) := by
        rw [Hid, gotM, HR.out.2.1, HR.out.2.2]
        by_cases he : e = 0
        · rw [if_pos he]
        · rw [if_neg he]
          have h0 := HZ.out he
          have := HD.out
          rw [h0] at this
          exact (List.eq_nil_of_length_eq_zero this).symm
      go_wp2
      all_goals try (exfalso; omega)
      go_ret
      refine ⟨o, c, ?_, ?_, ?_, (fun ad h => World.ownsRow.lt HOW.out ad.block (by rw [h]; rfl)), ?_⟩
      · rw [HG.out, HD.out]; rfl
      · rw [HG.out]; exact RowAt.owns HOW.out
      · rw [HG.out, HD.out]; exact own_le HOW.out
      · rw [HR.out.1, HR.out.2.1]; exact HM.out
end Go.Proofs.Ytphjhlnjfcfdcaa
namespace Go.Proofs.Ytphjhlnjfcfdcaa
open Go.ChangeShapes Go.WideShapes Go.ChangeAt Go.RowKit
set_option maxRecDepth 100000

theorem wrap_u16 {r : Int} (h0 : 0 ≤ r) (h1 : r ≤ 65535) : IntKind.u16.wrap r = r := by
  simp [IntKind.wrap, IntKind.signed, IntKind.bits]; omega
theorem upto_any (b : Nat) (n most : Int) (w : World) :
    Calls Try.prog 59 #[.pointer (some ⟨b, 0, none⟩), .int .i64 n, .int .u64 most] w fun r w' => ∃ b3 b4 b5, r = .returned (.func (.func 80) #[] #[.pointer (some ⟨b3, 0, none⟩), .pointer (some ⟨b4, 0, none⟩), .pointer (some ⟨b5, 0, none⟩)]) ∧
      (w'.cell? ⟨b3, 0, none⟩ = some (.pointer (some ⟨b, 0, none⟩)) ∧ w'.cell? ⟨b4, 0, none⟩ = some (.int .i64 n) ∧ w'.cell? ⟨b5, 0, none⟩ = some (.int .u64 most)) ∧ (w.heap.size ≤ b3 ∧ w.heap.size ≤ b4 ∧ w.heap.size ≤ b5) ∧ Fresh w w' := by
  have h1 := at_new w (.cells #[.pointer (some ⟨b, 0, none⟩)] 83)
  have h2 := at_new (w.alloc (.cells #[.pointer (some ⟨b, 0, none⟩)] 83)) (.cells #[.int .i64 n] 3)
  have h3 := at_new ((w.alloc (.cells #[.pointer (some ⟨b, 0, none⟩)] 83)).alloc (.cells #[.int .i64 n] 3)) (.cells #[.int .u64 most] 46)
  have k1 := Lib.hid (cell_of_at (at_alloc (p := .cells #[.int .u64 most] 46) (at_alloc (p := .cells #[.int .i64 n] 3) h1)) (i := 0) rfl)
  have k2 := Lib.hid (cell_of_at (at_alloc (p := .cells #[.int .u64 most] 46) h2) (i := 0) rfl)
  have k3 := Lib.hid (cell_of_at h3 (i := 0) rfl)
  clear h1 h2 h3
  have HF := Lib.hid ((((Fresh.refl w).alloc (.cells #[.pointer (some ⟨b, 0, none⟩)] 83)).alloc (.cells #[.int .i64 n] 3)).alloc (.cells #[.int .u64 most] 46))
  go_enter Try.func59, Try.ntmps59
  go_wp2
  go_ret
  exact ⟨_, _, _, rfl, ⟨k1.out, by have := k2.out; rw [World.size_alloc] at this; exact this, by have := k3.out; rw [World.size_alloc, World.size_alloc] at this; exact this⟩, ⟨by omega, by omega, by omega⟩, HF.out⟩
theorem container_any (b : Nat) (w : World) :
    Calls Try.prog 83 #[.pointer (some ⟨b, 0, none⟩)] w fun r w' => ∃ b1, r = .returned (.func (.func 96) #[] #[.pointer (some ⟨b1, 0, none⟩)]) ∧ w'.cell? ⟨b1, 0, none⟩ = some (.pointer (some ⟨b, 0, none⟩)) ∧ w.heap.size ≤ b1 ∧ Fresh w w' := by
  have k1 := Lib.hid (cell_of_at (at_new w (.cells #[.pointer (some ⟨b, 0, none⟩)] 83)) (i := 0) rfl)
  have HF := Lib.hid ((Fresh.refl w).alloc (.cells #[.pointer (some ⟨b, 0, none⟩)] 83))
  go_enter Try.func83, Try.ntmps83
  go_wp2
  go_ret
  exact ⟨_, rfl, k1.out, Nat.le_refl _, HF.out⟩
theorem podf_any (b : Nat) (w : World) :
    Calls Try.prog 60 #[.pointer (some ⟨b, 0, none⟩)] w fun r w' => ∃ b1, r = .returned (.func (.func 81) #[] #[.pointer (some ⟨b1, 0, none⟩)]) ∧ w'.cell? ⟨b1, 0, none⟩ = some (.pointer (some ⟨b, 0, none⟩)) ∧ w.heap.size ≤ b1 ∧ Fresh w w' := by
  have k1 := Lib.hid (cell_of_at (at_new w (.cells #[.pointer (some ⟨b, 0, none⟩)] 83)) (i := 0) rfl)
  have HF := Lib.hid ((Fresh.refl w).alloc (.cells #[.pointer (some ⟨b, 0, none⟩)] 83))
  go_enter Try.func60, Try.ntmps60
  go_wp2
  go_ret
  exact ⟨_, rfl, k1.out, Nat.le_refl _, HF.out⟩
/-- A pod's containers lie in a block of their own, above. -/
def M2.Above (N : Nat) (w : World) (m : M2) : Prop := ∀ ad : Addr, m.a = some ad → N ≤ ad.block ∧ ad.block < w.heap.size
set_option maxHeartbeats 8000000 in
theorem pod1_any (b b1 : Nat) (s s7 : ByteArray) (e e7 : Int) (p : P2) (w : World) (hs : s.size ≤ maxLen) (ht : atT w b s e) (h : pod2T s e = (s7, e7, p))
    (c1 : w.cell? ⟨b1, 0, none⟩ = some (.pointer (some ⟨b, 0, none⟩))) (n1 : b1 ≠ b) :
    Calls Try.prog 81 #[.pointer (some ⟨b1, 0, none⟩)] w fun r w' => ∃ m : M2, r = .returned m.val ∧ (e7 = 0 → m.p = p) ∧ m.In w' ∧ m.Above w.heap.size w' ∧ Moved b w w' s7 e7 := by
  obtain ⟨s1, s2, s3, s4, s5, s6, t7, x1, x2, x3, e1, e2, e3, e4, e5, e6, f7, v, g, n, L, hP⟩ := pod2T_ex s e
  obtain ⟨r1, r2, r3⟩ : t7 = s7 ∧ f7 = e7 ∧ (⟨x1, x2, x3, v, g, L⟩ : P2) = p := by
    have := (pod2T_eq hP).symm.trans h
    simpa using this
  subst r1 r2 r3
  clear h
  have hbl := atT_lt ht
  have hb1l := World.block_lt_of_cell? w _ c1
  dsimp only at hb1l
  obtain ⟨⟨hv0, hv1⟩, ⟨hg0, hg1⟩, hn0, hn1⟩ := hP.vals
  have HP := Lib.hid hP
  have HL : Hid (s1.size ≤ maxLen ∧ s2.size ≤ maxLen ∧ s3.size ≤ maxLen ∧ s4.size ≤ maxLen ∧ s5.size ≤ maxLen) := by have := hP.le; rw [Hid]; omega
  have hw8 := wrap_u8 hv0 (by omega)
  have hw16 := wrap_u16 hg0 hg1
  have ht0 : atT (w.alloc (.cells #[.string ⟨#[]⟩, .string ⟨#[]⟩, .string ⟨#[]⟩, .int .u8 0, .int .u16 0, .slice none 0 0] 98)) b s e := at_alloc ht
  have HM0 : Hid (Moved b w (w.alloc (.cells #[.string ⟨#[]⟩, .string ⟨#[]⟩, .string ⟨#[]⟩, .int .u8 0, .int .u16 0, .slice none 0 0] 98)).drew s e) := ((Moved.refl ht).fresh hbl ((Fresh.refl w).alloc _)).fresh (atT_lt ht0) ((Fresh.refl _).drew)
  have HA := Lib.hid (at_new w (.cells #[.string ⟨#[]⟩, .string ⟨#[]⟩, .string ⟨#[]⟩, .int .u8 0, .int .u16 0, .slice none 0 0] 98))
  have HC1 := Lib.hid (((Fresh.refl w).alloc (.cells #[.string ⟨#[]⟩, .string ⟨#[]⟩, .string ⟨#[]⟩, .int .u8 0, .int .u16 0, .slice none 0 0] 98)).cell c1)
  clear hP ht ht0 c1
  go_enter Try.func81, Try.ntmps81
  go_wp2_with (fail)
  generalize w.alloc (.cells #[.string ⟨#[]⟩, .string ⟨#[]⟩, .string ⟨#[]⟩, .int .u8 0, .int .u16 0, .slice none 0 0] 98) = W0 at *
  obtain ⟨z, hz⟩ : ∃ z, z = w.heap.size := ⟨_, rfl⟩
  rw [← hz] at HA ⊢
  have hzb : z ≠ b := by omega
  have hb1z : b1 ≠ z := by omega
  have hbz : b < z := by omega
  have HZW := Lib.hid hz
  clear hz
  have k1 := HC1.out
  have HA : Hid (W0.drew.heap[z]? = some (.cells #[.string ⟨#[]⟩, .string ⟨#[]⟩, .string ⟨#[]⟩, .int .u8 0, .int .u16 0, .slice none 0 0] 98)) := HA.out
  have HM := Lib.hid HM0.out
  clear HC1 HM0
  go_region_held3 (fun w' => (w'.cell? ⟨b1, 0, none⟩ = some (.pointer (some ⟨b, 0, none⟩)))) (first | go_keep | exact cell_set_ne (cell_set_ne (cell_set_ne (cell_set_ne (cell_set_ne (cell_set_ne k1 hb1z) hb1z) hb1z) hb1z) hb1z) hb1z)
    (first
      | (go_at_call 75; (with_reducible refine (ttext_at _ hs HM.out.isT HP.out.h1).mono ?_); rintro r W2 ⟨rfl, hm⟩; have k1 := hm.cell k1 n1; have HA := Lib.hid ((hm.block z (lt_of_at HA.out) hzb).trans HA.out); have HM := Lib.hid (HM.out.trans hm); clear hm)
      | (go_at_call 75; (with_reducible refine (ttext_at _ HL.out.1 HM.out.isT HP.out.h2).mono ?_); rintro r W2 ⟨rfl, hm⟩; have k1 := hm.cell k1 n1; have HA := Lib.hid ((hm.block z (lt_of_at HA.out) hzb).trans HA.out); have HM := Lib.hid (HM.out.trans hm); clear hm)
      | (go_at_call 75; (with_reducible refine (ttext_at _ HL.out.2.1 HM.out.isT HP.out.h3).mono ?_); rintro r W2 ⟨rfl, hm⟩; have k1 := hm.cell k1 n1; have HA := Lib.hid ((hm.block z (lt_of_at HA.out) hzb).trans HA.out); have HM := Lib.hid (HM.out.trans hm); clear hm)
      | (go_at_call 47; (with_reducible refine (take_at _ HL.out.2.2.1 HM.out.isT HP.out.h4).mono ?_); rintro r W2 ⟨rfl, hm⟩; have k1 := hm.cell k1 n1; have HA := Lib.hid ((hm.block z (lt_of_at HA.out) hzb).trans HA.out); have HM := Lib.hid (HM.out.trans hm); clear hm)
      | (go_at_call 47; (with_reducible refine (take_at _ HL.out.2.2.2.1 HM.out.isT HP.out.h5).mono ?_); rintro r W2 ⟨rfl, hm⟩; have k1 := hm.cell k1 n1; have HA := Lib.hid ((hm.block z (lt_of_at HA.out) hzb).trans HA.out); have HM := Lib.hid (HM.out.trans hm); clear hm)
      | (go_at_call 59; (with_reducible refine (upto_any _ _ _ _).mono ?_); rintro r W2 ⟨b3, b4, b5, rfl, hcs, hbs, hf⟩; have k1 := hf.cell k1; have HCS := Lib.hid hcs; have HBS := Lib.hid (show b3 ≠ b ∧ b5 ≠ b from by have := atT_lt HM.out.isT; omega); have HA := Lib.hid (hf.at HA.out); have HM := Lib.hid (HM.out.fresh (atT_lt HM.out.isT) hf); clear hf hcs hbs)
      | (go_at_call 83; (with_reducible refine (container_any _ _).mono ?_); rintro r W2 ⟨b6, rfl, hc6, hb6, hf⟩; have k1 := hf.cell k1; have HC6 := Lib.hid hc6; have HCS := Lib.hid (⟨hf.cell HCS.out.1, hf.cell HCS.out.2.1, hf.cell HCS.out.2.2⟩ : _ ∧ _ ∧ _); have HB6 := Lib.hid (show b6 ≠ b from by have := atT_lt HM.out.isT; omega); have HA := Lib.hid (hf.at HA.out); have HM := Lib.hid (HM.out.fresh (atT_lt HM.out.isT) hf); clear hf hc6 hb6)
      | (go_at_call 82; (with_reducible refine (listC_any b b6 b3 b4 b5 s5 s6 t7 e5 e6 f7 1 16 n L _ HL.out.2.2.2.2 HM.out.isT HP.out.h6 HP.out.h7 hn0 (by omega) HC6.out HCS.out.1 HCS.out.2.1 HCS.out.2.2 HB6.out HBS.out.1 HBS.out.2).mono ?_); rintro r W2 ⟨la, lc, rfl, hrow, hcap, hab, hm⟩; have k1 := hm.cell k1 n1; have HROW := Lib.hid hrow; have HCAP := Lib.hid hcap; have HAB := Lib.hid (show ∀ ad : Addr, la = some ad → z < ad.block ∧ ad.block < W2.heap.size from fun ad h => ⟨Nat.lt_of_lt_of_le (lt_of_at HA.out) (hab ad h).1, (hab ad h).2⟩); have HA := Lib.hid ((hm.block z (lt_of_at HA.out) hzb).trans HA.out); have HM := Lib.hid (HM.out.trans hm); clear hm hrow hcap hab; have q0 := cell_of_at HA.out (i := 0) rfl; have q1 := cell_of_at HA.out (i := 1) rfl; have q2 := cell_of_at HA.out (i := 2) rfl; have q3 := cell_of_at HA.out (i := 3) rfl; have q4 := cell_of_at HA.out (i := 4) rfl; have q5 := cell_of_at HA.out (i := 5) rfl; have g0 := frozen_of_at HA.out 0; have g1 := frozen_of_at HA.out 1; have g2 := frozen_of_at HA.out 2; have g3 := frozen_of_at HA.out 3; have g4 := frozen_of_at HA.out 4; have g5 := frozen_of_at HA.out 5))
  all_goals go_wp2
  refine bodyPost_ret (v := .agg #[.string x1, .string x2, .string x3, .int .u8 v, .int .u16 g, .slice la (gotM f7 L).length lc]) (by simp [results, Try.results81, go_sem, *]) rfl ⟨⟨⟨x1, x2, x3, v, g, gotM f7 L⟩, la, lc⟩, rfl, fun h => by rw [gotM, if_pos h], ⟨?_, HCAP.out⟩, fun ad h => ?_, ?_⟩
  · have hne : ∀ ad : Addr, la = some ad → ad.block ≠ z := fun ad h => by have := HAB.out ad h; omega
    exact (((((HROW.out.set (p := ⟨z, 0, none⟩) hne _).set (p := ⟨z, 1, none⟩) hne _).set (p := ⟨z, 2, none⟩) hne _).set (p := ⟨z, 3, none⟩) hne _).set (p := ⟨z, 4, none⟩) hne _).set (p := ⟨z, 5, none⟩) hne _
  · have := HAB.out ad h
    have := HZW.out
    refine ⟨by omega, ?_⟩
    simp only [World.size_setCell]
    omega
  · have hzw : w.heap.size ≤ z := by have := HZW.out; omega
    exact (((((HM.out.off hzw hbl _ _).off hzw hbl _ _).off hzw hbl _ _).off hzw hbl _ _).off hzw hbl _ _).off hzw hbl _ _
end Go.Proofs.Ytphjhlnjfcfdcaa
namespace Go.Proofs.Ytphjhlnjfcfdcaa
open Go.ChangeShapes Go.WideShapes Go.ChangeAt Go.RowKit
set_option maxRecDepth 100000

theorem infoP2 : (Try.prog.info? 98).map (fun i => (i.zero, i.size, i.bytes)) = some (some (.agg #[.string ⟨#[]⟩, .string ⟨#[]⟩, .string ⟨#[]⟩, .int .u8 0, .int .u16 0, .slice none 0 0]), 6, 80) := by kernel_rfl
/-- A pod's containers lie above, and in another block than the pods. -/
def M2.Far (N : Nat) (g : Option Nat) (w : World) (m : M2) : Prop := m.In w ∧ ∀ ad : Addr, m.a = some ad → N ≤ ad.block ∧ ad.block < w.heap.size ∧ some ad.block ≠ g
theorem M2.Far.fresh {N : Nat} {g : Option Nat} {w w' : World} {m : M2} (h : m.Far N g w) (f : Fresh w w') : m.Far N g w' :=
  ⟨h.1.move f, fun ad e => ⟨(h.2 ad e).1, Nat.lt_of_lt_of_le (h.2 ad e).2.1 f.size, (h.2 ad e).2.2⟩⟩
theorem M2.Far.moved {N b : Nat} {g : Option Nat} {w w' : World} {s : ByteArray} {x : Int} {m : M2} (h : m.Far N g w) (f : Moved b w w' s x) (hb : b < N) : m.Far N g w' :=
  ⟨⟨h.1.1.keep (fun ad e => f.block ad.block (h.2 ad e).2.1 (by have := (h.2 ad e).1; omega)), h.1.2⟩, fun ad e => ⟨(h.2 ad e).1, Nat.lt_of_lt_of_le (h.2 ad e).2.1 f.size, (h.2 ad e).2.2⟩⟩
theorem M2.Far.grown {N g' : Nat} {g : Option Nat} {w w' : World} {m : M2} (h : m.Far N g w) (f : w.grownBy w' g) (hat : g = some g' ∨ g' = w.heap.size) : m.Far N (some g') w' :=
  ⟨⟨h.1.1.keep (fun ad e => f.block ad.block (h.2 ad e).2.1 (h.2 ad e).2.2), h.1.2⟩, fun ad e => ⟨(h.2 ad e).1, Nat.lt_of_lt_of_le (h.2 ad e).2.1 f.size, fun e2 => by
    have h1 := (h.2 ad e).2.1
    rcases hat with e3 | e3
    · exact (h.2 ad e).2.2 (by rw [e3]; exact e2)
    · have : ad.block = g' := by simpa using e2
      omega⟩⟩
theorem M2.Far.set {N z i : Nat} {g : Option Nat} {w : World} {m : M2} {u : Value} (h : m.Far N g w) (hz : z < N) : m.Far N g (w.setCell ⟨z, i, none⟩ u) :=
  ⟨⟨h.1.1.set (p := ⟨z, i, none⟩) (fun ad e => by have := (h.2 ad e).1; show ad.block ≠ z; omega) u, h.1.2⟩, fun ad e => ⟨(h.2 ad e).1, by rw [World.size_setCell]; exact (h.2 ad e).2.1, (h.2 ad e).2.2⟩⟩
theorem M2.far {N B : Nat} {g : Option Nat} {w : World} {m : M2} (hi : m.In w) (h : m.Above B w) (hN : N ≤ B) (hg : ∀ k, g = some k → k < B) : m.Far N g w :=
  ⟨hi, fun ad e => ⟨Nat.le_trans hN (h ad e).1, (h ad e).2, fun e2 => by have := hg _ e2.symm; have := (h ad e).1; omega⟩⟩
theorem pods2_snoc (D : List M2) (m : M2) : pods2 (D ++ [m]) = pods2 D ++ [m.p] := by simp [pods2]
set_option maxHeartbeats 4000000 in
theorem listP_any (b b1 b3 b4 b5 : Nat) (s s2 s3 : ByteArray) (e e2 e3 m most n : Int) (L : List P2) (w : World) (hs : s.size ≤ maxLen) (ht : atT w b s e) (h2 : upT s e m most = (s2, e2, n)) (h3 : manyT pod2T n.toNat s2 e2 = (s3, e3, L)) (hn0 : 0 ≤ n) (hn1 : n ≤ 1024)
    (c1 : w.cell? ⟨b1, 0, none⟩ = some (.pointer (some ⟨b, 0, none⟩))) (c3 : w.cell? ⟨b3, 0, none⟩ = some (.pointer (some ⟨b, 0, none⟩))) (c4 : w.cell? ⟨b4, 0, none⟩ = some (.int .i64 m)) (c5 : w.cell? ⟨b5, 0, none⟩ = some (.int .u64 most)) (n1 : b1 ≠ b) (n3 : b3 ≠ b) (n5 : b5 ≠ b) :
    Calls Try.prog 58 #[.pointer (some ⟨b, 0, none⟩), .func (.func 80) #[] #[.pointer (some ⟨b3, 0, none⟩), .pointer (some ⟨b4, 0, none⟩), .pointer (some ⟨b5, 0, none⟩)], .func (.func 81) #[] #[.pointer (some ⟨b1, 0, none⟩)]] w
      fun r w' => ∃ a c, ∃ D : List M2, r = .returned (.slice a D.length c) ∧ pods2 D = gotM e3 L ∧ RowAt w' a (m2s D) ∧ (∀ m ∈ D, m.Far w.heap.size none w') ∧ (∀ ad : Addr, a = some ad → w.heap.size ≤ ad.block ∧ ad.block < w'.heap.size) ∧ Moved b w w' s3 e3 := by
  have hb := atT_lt ht
  have HT := Lib.hid (upto1_any b b3 b4 b5 s s2 e e2 m most n w hs ht h2 c3 c4 c5 n3 n5)
  have hs2 : s2.size ≤ maxLen := by have := upT_less s e m most; rw [h2] at this; exact Nat.le_trans this hs
  have HZ0 := Lib.hid (fun h => upT_zero h2 h)
  have HC1 := Lib.hid c1
  clear ht h2 hs c3 c4 c5
  obtain ⟨N, rfl⟩ := Int.eq_ofNat_of_zero_le hn0
  rw [Int.toNat_natCast] at h3
  have H3 : Hid (manyT pod2T N s2 e2 = (s3, e3, L)) := h3
  have HZ : Hid (e2 ≠ 0 → N = 0) := fun h => by have := HZ0.out h; omega
  have hN : N ≤ 1024 := by omega
  clear h3 HZ0 hn0 hn1 c1
  obtain ⟨i0, hi, hz0, hz1, hz2⟩ := info_parts infoP2
  go_enter Try.func58, Try.ntmps58
  go_wp2_with (fail)
  refine HT.out.mono ?_
  rintro r w1 ⟨rfl, hm1⟩
  have HM := Lib.hid hm1
  have hbw : w.heap.size ≤ w1.heap.size := hm1.size
  have HS2 : Hid (s2.size ≤ maxLen) := hs2
  clear hm1 hs2
  go_wp2
  all_goals try (exfalso; omega)
  go_loopw [7, 10] (fun a7 a10 wr => ∃ (k : Nat) (s : ByteArray) (e : Int) (o : Option Addr) (c : Nat) (D : List M2), a10 = .int .u64 (k : Int) ∧ a7 = .slice o k c ∧ k ≤ N ∧ Hid (e ≠ 0 → N = 0) ∧ Hid (s.size ≤ maxLen) ∧ Hid (D.length = k) ∧ Hid (manyT pod2T N s2 e2 = aheadM (pods2 D) (manyT pod2T (N - k) s e)) ∧ Hid (wr.ownsRow w.heap.size 98 6 (.slice o k c) k (m2s D)) ∧ Hid (∀ m ∈ D, m.Far w.heap.size (Value.slice o k c).ownBlock wr) ∧ Hid (Moved b w wr s e)) (fun _ a10 _ => N - (intOf a10).toNat)
  case atStart => exact ⟨0, s2, e2, none, 0, [], rfl, rfl, Nat.zero_le _, HZ.out, HS2.out, rfl, rfl, World.ownsRow_nil _ _ _ _, by rw [Hid]; simp, HM.out⟩
  case round =>
    clear HM HZ HS2
    obtain ⟨k, s, e, o, c, D, rfl, rfl, hk, HZ, HS, HD, HE, HOW, HFA, HM⟩ := hrel
    by_cases hlt : k < N
    · obtain rfl : e = 0 := Classical.byContradiction fun h => by have := HZ.out h; omega
      obtain ⟨s4, e4, x, hx⟩ : ∃ s4 e4 x, pod2T s 0 = (s4, e4, x) := ⟨_, _, _, rfl⟩
      have HST := Lib.hid (HE.out.trans (manyT_step hlt hx (pods2 D)))
      have HL4 : Hid (s4.size ≤ maxLen) := by have := pod2T_less s 0; rw [hx] at this; exact Nat.le_trans this HS.out
      have HCT := Lib.hid (pod1_any b b1 s s4 0 e4 x wr HS.out HM.out.isT hx (HM.out.cell HC1.out n1) n1)
      clear hx HE
      go_wp2_with (fail)
      all_goals try (exfalso; omega)
      refine HCT.out.mono ?_
      rintro r w5 ⟨m, rfl, hmp, hin, hab, hm2⟩
      have HO := Lib.hid (own_moved HOW.out hm2 hb)
      have HFB := Lib.hid (fun m hm => (HFA.out m hm).moved hm2 hb)
      have HFM := Lib.hid (M2.far (N := w.heap.size) (g := (Value.slice o k c).ownBlock) hin hab HM.out.size (fun g e => (World.ownsRow.lt HOW.out g e).2))
      have HM := Lib.hid (HM.out.trans hm2)
      have HMP := Lib.hid hmp
      clear hm2 HCT hmp hin hab
      obtain ⟨⟨y1, y2, y3, yv, yg, ycs⟩, ya, yc⟩ := m
      dsimp only [M2.val] at *
      have HN := Lib.hid (news7 w5 98 [.string y1, .string y2, .string y3, .int .u8 yv, .int .u16 yg, .slice ya ycs.length yc])
      have HW5 : Hid (w.heap.size ≤ w5.heap.size) := HM.out.size
      go_wp2_with (at_builtin; refine Hid.out ?_)
      refine Lib.hid ?_
      refine wpList_append_lies _ rfl _ _ 47 rfl w.heap.size 98 i0 (.agg #[.string ⟨#[]⟩, .string ⟨#[]⟩, .string ⟨#[]⟩, .int .u8 0, .int .u16 0, .slice none 0 0]) 6 80 Try.underlying47 hi hz0 hz1 hz2 rfl (by decide) _ k _ rfl (World.ownsRow.alloc HO.out _) ⟨w5.heap.size, 0, none⟩ 1 1 [.string y1, .string y2, .string y3, .int .u8 yv, .int .u16 yg, .slice ya ycs.length yc] rfl rfl HN.out (by simp [Value.oneCell']) (by decide) (by unfold maxLen; omega) (by omega) (by rw [World.size_alloc]; have := HW5.out; omega) _ rfl ?_
      intro g' cap' w6 hown' hgrow hat _
      have hm6 := (HM.out.fresh (atT_lt HM.out.isT) ((Fresh.refl w5).alloc (.cells #[.string y1, .string y2, .string y3, .int .u8 yv, .int .u16 yg, .slice ya ycs.length yc] 98))).grown hgrow (fun g e => (World.ownsRow.lt HO.out g e).1) hb
      have HFC : Hid (∀ m ∈ D ++ [(⟨⟨y1, y2, y3, yv, yg, ycs⟩, ya, yc⟩ : M2)], m.Far w.heap.size (some g') w6) := fun m hm => by
        have hf : m.Far w.heap.size (Value.slice o k c).ownBlock w5 := by
          rcases List.mem_append.1 hm with h | h
          · exact HFB.out m h
          · rw [List.mem_singleton.1 h]; exact HFM.out
        exact (hf.fresh ((Fresh.refl w5).alloc _)).grown hgrow hat
      obtain ⟨k0, k1, f0, f1⟩ := atT_facts hm6.isT
      have HM6 := Lib.hid hm6
      have HOWN := Lib.hid hown'
      clear hown' hgrow hm6 hat
      by_cases he : e4 = 0
      · subst he
        go_wp2
        go_roundw
        case rel =>
          refine ⟨k + 1, s4, 0, some ⟨g', 0, none⟩, cap', D ++ ([⟨⟨y1, y2, y3, yv, yg, ycs⟩, ya, yc⟩] : List M2), by simp, by simp, by omega, fun h => absurd rfl h, HL4.out, ?_, ?_, ?_, HFC.out, HM6.out⟩
          · rw [Hid, List.length_append, HD.out]; rfl
          · rw [Hid, HST.out, pods2_snoc, ← HMP.out rfl]
          · rw [m2s_snoc]; exact HOWN.out
        case measure => simp [intOf]; omega
      · have e0 : (e4 != 0) = true := by simpa using he
        have HR : Hid (s3 = s4 ∧ e3 = e4) := by
          have h1 := H3.out.symm.trans HST.out
          have h2 := manyT_err pod2T_keeps (N - (k + 1)) (s := s4) he
          simp only [aheadM, Prod.mk.injEq] at h1
          exact ⟨h1.1.trans h2.1, h1.2.1.trans h2.2⟩
        have HG : Hid (gotM e3 L = []) := by rw [Hid, gotM, HR.out.2, if_neg he]
        go_wp2
        go_ret
        refine ⟨none, 0, [], rfl, by rw [HG.out]; rfl, .nil _ _, by simp, (fun _ h => nomatch h), ?_⟩
        rw [HR.out.1, HR.out.2]; exact HM6.out
    · obtain rfl : k = N := by omega
      have HR : Hid (s3 = s ∧ e3 = e ∧ L = pods2 D) := by
        have h1 := H3.out.symm.trans HE.out
        rw [Nat.sub_self] at h1
        simp only [aheadM, manyT, Prod.mk.injEq, List.append_nil] at h1
        exact h1
      have HG : Hid (pods2 D = gotM e3 L) := by
        rw [Hid, gotM, HR.out.2.1, HR.out.2.2]
        by_cases he : e = 0
        · rw [if_pos he]
        · rw [if_neg he]
          have h0 := HZ.out he
          have := HD.out
          rw [h0] at this
          rw [List.eq_nil_of_length_eq_zero this]; rfl
      go_wp2
      all_goals try (exfalso; omega)
      go_ret
      refine ⟨o, c, D, ?_, HG.out, RowAt.owns HOW.out, fun m hm => ⟨(HFA.out m hm).1, fun ad e => ⟨((HFA.out m hm).2 ad e).1, ((HFA.out m hm).2 ad e).2.1, by simp⟩⟩, (fun ad h => World.ownsRow.lt HOW.out ad.block (by rw [h]; rfl)), ?_⟩
      · rw [HD.out]; rfl
      · rw [HR.out.1, HR.out.2.1]; exact HM.out
end Go.Proofs.Ytphjhlnjfcfdcaa
namespace Go.Proofs.Ytphjhlnjfcfdcaa
open Go.ChangeShapes Go.WideShapes Go.ChangeAt Go.RowKit
set_option maxRecDepth 100000

/-- What Decode answers. -/
def DecIs2 (b : ByteArray) (w : World) (r : Ending) (w' : World) : Prop :=
  ∃ a c, ∃ D : List M2, r = .returned (.tuple #[st2 (dec2 b).2.1 a D.length c, .int .i64 (dec2 b).1]) ∧ pods2 D = (dec2 b).2.2 ∧ Row2 w' a D ∧ Fresh w w'
theorem Row2.set {w : World} {a : Option Addr} {l : List M2} {z i : Nat} {u : Value} (h : Row2 w a l) (h1 : ∀ ad : Addr, a = some ad → ad.block ≠ z) (h2 : ∀ m ∈ l, ∀ ad : Addr, m.a = some ad → ad.block ≠ z) : Row2 (w.setCell ⟨z, i, none⟩ u) a l :=
  ⟨h.row.set (p := ⟨z, i, none⟩) h1 u, fun m hm => ⟨(h.ins m hm).1.set (p := ⟨z, i, none⟩) (h2 m hm) u, (h.ins m hm).2⟩⟩
set_option maxHeartbeats 4000000 in
theorem decode2_any (b : ByteArray) (w : World) (hb : b.size ≤ maxLen) : Calls Try.prog 31 #[.string b] w (DecIs2 b w) := by
  obtain ⟨s1, s2, s3, e1, e2, e3, q, n, L, hD⟩ := dec2T_ex b
  obtain ⟨⟨hq0, hq1⟩, hn0, hn1⟩ := hD.vals
  have HEQ : Hid (dec2 b = if endT s3 e3 ≠ 0 then (endT s3 e3, 0, []) else if chk2 L ≠ 0 then (chk2 L, 0, []) else (0, q, L)) := dec2_eq hD
  have HTH := Lib.hid hD
  have HLE := Lib.hid hD.le
  have HFT : Hid (∀ p ∈ L, p.Fit maxLen) := fun p hp => (hD.fit.1 p hp).1.mono (by unfold maxLen; omega)
  clear hD
  unfold DecIs2
  generalize dec2 b = R at *
  have ht0 : atT ((w.alloc (.cells #[.int .u64 0, .slice none 0 0] 49)).alloc (.cells #[.string b, .int .i64 0] 85)) (w.heap.size + 1) b 0 := by
    have := at_new (w.alloc (.cells #[.int .u64 0, .slice none 0 0] 49)) (.cells #[.string b, .int .i64 0] 85)
    rw [World.size_alloc] at this
    exact this
  have hA := at_alloc (p := .cells #[.string b, .int .i64 0] 85) (at_new w (.cells #[.int .u64 0, .slice none 0 0] 49))
  have HF0 := Lib.hid (((Fresh.refl w).alloc (.cells #[.int .u64 0, .slice none 0 0] 49)).alloc (.cells #[.string b, .int .i64 0] 85))
  have HA := Lib.hid hA
  have HT0 := Lib.hid ht0
  clear ht0 hA
  go_enter Try.func31, Try.ntmps31
  go_wp2_with (fail)
  generalize (w.alloc (.cells #[.int .u64 0, .slice none 0 0] 49)).alloc (.cells #[.string b, .int .i64 0] 85) = W0 at *
  obtain ⟨z, hz⟩ : ∃ z, z = w.heap.size := ⟨_, rfl⟩
  have HZW := Lib.hid hz
  rw [← hz] at HA HT0 ⊢
  clear hz
  refine (take_at _ hb HT0.out HTH.out.h1).mono ?_
  rintro r w1 ⟨rfl, hm1⟩
  have HM := Lib.hid hm1
  clear hm1
  go_wp2_with (fail)
  refine (upto_any _ _ _ _).mono ?_
  rintro r v1 ⟨b3, b4, b5, rfl, hcs, hbs, hf⟩
  have HCS := Lib.hid hcs
  have HBS := Lib.hid (show b3 ≠ z + 1 ∧ b5 ≠ z + 1 from by have := atT_lt HM.out.isT; omega)
  have HM := Lib.hid (HM.out.fresh (atT_lt HM.out.isT) hf)
  clear hf hcs hbs
  go_wp2_with (fail)
  refine (podf_any _ _).mono ?_
  rintro r v2 ⟨b6, rfl, hc6, hb6, hf⟩
  have HC6 := Lib.hid hc6
  have HCS := Lib.hid (⟨hf.cell HCS.out.1, hf.cell HCS.out.2.1, hf.cell HCS.out.2.2⟩ : _ ∧ _ ∧ _)
  have HB6 := Lib.hid (show b6 ≠ z + 1 from by have := atT_lt HM.out.isT; omega)
  have HM := Lib.hid (HM.out.fresh (atT_lt HM.out.isT) hf)
  clear hf hc6 hb6
  go_wp2_with (fail)
  refine (listP_any (z + 1) b6 b3 b4 b5 s1 s2 s3 e1 e2 e3 2 1024 n L _ (Nat.le_trans HLE.out.1 hb) HM.out.isT HTH.out.h2 HTH.out.h3 hn0 hn1 HC6.out HCS.out.1 HCS.out.2.1 HCS.out.2.2 HB6.out HBS.out.1 HBS.out.2).mono ?_
  rintro r w2 ⟨a, c, D, rfl, hpd, hrow, hfar, hab, hm2⟩
  have hzl : z + 1 < v2.heap.size := atT_lt HM.out.isT
  have HAB : Hid (∀ ad : Addr, a = some ad → ad.block ≠ z) := fun ad h => by
    have h1 := (hab ad h).1
    omega
  have HAB2 : Hid (∀ m ∈ D, ∀ ad : Addr, m.a = some ad → ad.block ≠ z) := fun m hm ad h => by
    have h1 := ((hfar m hm).2 ad h).1
    omega
  have HROW : Hid (Row2 w2 a D) := ⟨hrow, fun m hm => (hfar m hm).1⟩
  have HPD := Lib.hid hpd
  have HDF : Hid (∀ m ∈ D, m.p.Fit maxLen) := fun m hm => by
    have h1 : m.p ∈ gotM e3 L := by rw [← hpd]; exact List.mem_map_of_mem hm
    unfold gotM at h1
    split at h1
    · exact HFT.out _ h1
    · simp at h1
  have hbx : w2.heap[z]? = some (.cells #[.int .u64 0, .slice none 0 0] 49) :=
    (hm2.block z (by omega) (by omega)).trans ((HM.out.block z (lt_of_at HA.out) (by omega)).trans HA.out)
  have hfr : Fresh w w2 := Moved.below (Moved.below HF0.out HM.out (by have := HZW.out; omega)) hm2 (by have := HZW.out; omega)
  clear hrow hfar hab hpd HFT
  have HM3 := Lib.hid (hm2.fresh (atT_lt hm2.isT) ((Fresh.refl w2).alloc (.cells #[.int .u64 q, .slice a D.length c] 49)))
  have HEN := Lib.hid (tend_any (z + 1) s3 e3 _ HM3.out.isT)
  have HBX := Lib.hid (at_alloc (p := .cells #[.int .u64 q, .slice a D.length c] 49) hbx)
  have HBS := Lib.hid (at_new w2 (.cells #[.int .u64 q, .slice a D.length c] 49))
  have HFR := Lib.hid (hfr.alloc (.cells #[.int .u64 q, .slice a D.length c] 49))
  have HROW := Lib.hid (HROW.out.move ((Fresh.refl w2).alloc (.cells #[.int .u64 q, .slice a D.length c] 49)))
  clear hm2 hbx hfr HC6 HCS HB6
  have HPF : Hid (endT s3 e3 = 0 → pods2 D = L) := fun h => by
    have h0 : e3 = 0 := by
      unfold endT at h
      split at h
      · simp at h
      · exact h
    rw [HPD.out, gotM, if_pos h0]
  clear HPD
  generalize endT s3 e3 = E at *
  obtain ⟨y, hy⟩ : ∃ y, y = w2.heap.size := ⟨_, rfl⟩
  rw [← hy] at HBS
  have hzy : z < y := by
    have h3 := lt_of_at HM3.out.isT
    rw [World.size_alloc] at h3
    omega
  by_cases hE : E = 0
  case neg =>
    have HR : Hid (R = (E, 0, [])) := by rw [Hid, HEQ.out, if_pos hE]
    have e0 : (E != 0) = true := by simpa using hE
    clear HEQ hE HPF
    go_wp2_with (fail)
    rw [← hy]
    clear hy
    generalize w2.alloc (.cells #[.int .u64 q, .slice a D.length c] 49) = W3 at *
    refine HEN.out.mono ?_
    rintro r w4 ⟨rfl, rfl⟩
    obtain ⟨q0, q1, qf⟩ := st2_box HBX.out
    have f0 := qf 0
    have f1 := qf 1
    clear qf
    go_wp2
    refine bodyPost_ret (v := .tuple #[st2 0 none 0 0, .int .i64 E]) (by simp [results, Try.results31, go_sem, st2, *]) rfl ⟨none, 0, [], ?_, ?_, Row2.nil _ _, ?_⟩
    · rw [HR.out]; rfl
    · rw [HR.out]; rfl
    · exact (HFR.out.setCell (p := ⟨z, 0, none⟩) (by rw [HZW.out]; exact Nat.le_refl _) _).setCell (p := ⟨z, 1, none⟩) (by rw [HZW.out]; exact Nat.le_refl _) _
  have HPL := Lib.hid (HPF.out hE)
  have HR1 : Hid (R = if chk2 L ≠ 0 then (chk2 L, 0, []) else (0, q, L)) := by rw [Hid, HEQ.out, if_neg (by simpa using hE)]
  subst hE
  have HCK : Hid (∀ W, Fresh (w2.alloc (.cells #[.int .u64 q, .slice a D.length c] 49)) W → Calls Try.prog 27 #[.agg #[.int .u64 q, .slice a D.length c]] W fun e w' => e = .returned (.int .i64 (chk2 L)) ∧ Fresh W w') := fun W f => by
    have := check2_any q a D c W (HROW.out.move f) HDF.out
    rw [HPL.out] at this
    exact this
  clear HEQ HPF HDF
  generalize hC : chk2 L = C at *
  clear hC
  by_cases hC : C = 0
  case neg =>
    have HR : Hid (R = (C, 0, [])) := by rw [Hid, HR1.out, if_pos hC]
    have e0 : (C != 0) = true := by simpa using hC
    clear HR1 hC
    go_wp2_with (fail)
    rw [← hy]
    clear hy
    generalize w2.alloc (.cells #[.int .u64 q, .slice a D.length c] 49) = W3 at *
    refine HEN.out.mono ?_
    rintro r w4 ⟨rfl, rfl⟩
    obtain ⟨d0, d1, _⟩ := st2_box HBS.out
    go_wp2_with (fail)
    refine (HCK.out _ (.refl _)).mono ?_
    rintro r w5 ⟨rfl, hf⟩
    obtain ⟨q0, q1, qf⟩ := st2_box (hf.at HBX.out)
    have f0 := qf 0
    have f1 := qf 1
    have HF5 := Lib.hid (HFR.out.trans hf)
    clear qf hf d0 d1
    go_wp2
    refine bodyPost_ret (v := .tuple #[st2 0 none 0 0, .int .i64 C]) (by simp [results, Try.results31, go_sem, st2, *]) rfl ⟨none, 0, [], ?_, ?_, Row2.nil _ _, ?_⟩
    · rw [HR.out]; rfl
    · rw [HR.out]; rfl
    · exact (HF5.out.setCell (p := ⟨z, 0, none⟩) (by rw [HZW.out]; exact Nat.le_refl _) _).setCell (p := ⟨z, 1, none⟩) (by rw [HZW.out]; exact Nat.le_refl _) _
  have HR : Hid (R = (0, q, L)) := by rw [Hid, HR1.out, if_neg (by simpa using hC)]
  subst hC
  clear HR1
  go_wp2_with (fail)
  rw [← hy]
  clear hy
  generalize w2.alloc (.cells #[.int .u64 q, .slice a D.length c] 49) = W3 at *
  refine HEN.out.mono ?_
  rintro r w4 ⟨rfl, rfl⟩
  obtain ⟨d0, d1, _⟩ := st2_box HBS.out
  go_wp2_with (fail)
  refine (HCK.out _ (.refl _)).mono ?_
  rintro r w5 ⟨rfl, hf⟩
  obtain ⟨q0, q1, qf⟩ := st2_box (hf.at HBX.out)
  obtain ⟨d0, d1, _⟩ := st2_box (hf.at HBS.out)
  have f0 := qf 0
  have f1 := qf 1
  have HF5 := Lib.hid (HFR.out.trans hf)
  have HRW5 := Lib.hid (HROW.out.move hf)
  clear qf hf
  go_wp2
  refine bodyPost_ret (v := .tuple #[st2 q a D.length c, .int .i64 0]) (by simp [results, Try.results31, go_sem, st2, *]) rfl ⟨a, c, D, ?_, ?_, ?_, ?_⟩
  · rw [HR.out]
  · rw [HR.out]; exact HPL.out
  · exact (HRW5.out.set HAB.out HAB2.out).set HAB.out HAB2.out
  · exact (HF5.out.setCell (p := ⟨z, 0, none⟩) (by rw [HZW.out]; exact Nat.le_refl _) _).setCell (p := ⟨z, 1, none⟩) (by rw [HZW.out]; exact Nat.le_refl _) _
end Go.Proofs.Ytphjhlnjfcfdcaa
