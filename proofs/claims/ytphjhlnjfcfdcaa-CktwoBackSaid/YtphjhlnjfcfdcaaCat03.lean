/-
  The state of version 2 of bytes: what is taken. No call.
  DERIVED: THE SHELF's CONTRACTS AT THIS DUMP, IN PLAIN WORDS (tools/lay-plain.mjs out of 'TryShelf.lean', which tools/lay-shelf.mjs wrote): THE SAME DECLARATIONS UNDER THE SAME NAMES: 'import', 'namespace', 'open', 'def', 'theorem' AND NOTHING ELSE: no command of the shelf's: FOR A HAND-IN. Each laying: the table of numbers ('.._ren') and one theorem, a field a fact of the dump's own or the kernel's comparison; each contract: ONE APPLICATION.
  strings.Cut at a point; a range over what the points of a text part.
  What dns.Label, dns.Variable and what they call return, for every text.
  What dns.Label returns, for every text; dns.Variable, for every short text.
  What dns.Name returns, for every text.
  What dns.Variable and dns.Image return, for every text.
-/
import Derived.Test.YtphjhlnjfcfdcaaCat02
import Derived.Shelf.Strings.Builder1
import Derived.Shelf.Strings.Search2
import Derived.Test.YtphjhlnjfcfdcaaProg
import Derived.Ground.NamesProg
import Derived.Test.YtphjhlnjfcfdcaaCat01
import Derived.BigQuiet
import Derived.Shelf.RegionOpen
import Derived.RangeFuncNested
import Derived.RangeFuncBound
import Derived.RangeFuncCalls
import Derived.RangeFuncLeaves
import Derived.RangeFuncBox
import Derived.OwnWalkIn
import Derived.TacticsInMore
import Derived.LoopNIn
import Derived.LoopIn
import Derived.RangeFuncWrites
namespace Go.Proofs.Ytphjhlnjfcfdcaa
open Go.ChangeShapes Go.WideShapes Go.ChangeAt Go.RowKit

/-! ### so many, one after another -/
section
variable {α : Type} {f : ByteArray → Int → ByteArray × Int × α}
def manyT (f : ByteArray → Int → ByteArray × Int × α) : Nat → ByteArray → Int → ByteArray × Int × List α
  | 0, s, e => (s, e, [])
  | n + 1, s, e => ((manyT f n (f s e).1 (f s e).2.1).1, (manyT f n (f s e).1 (f s e).2.1).2.1, (f s e).2.2 :: (manyT f n (f s e).1 (f s e).2.1).2.2)
/-- With an error nothing is taken. -/
def KeepsE (f : ByteArray → Int → ByteArray × Int × α) : Prop := ∀ s e, e ≠ 0 → (f s e).1 = s ∧ (f s e).2.1 = e
def LessT (f : ByteArray → Int → ByteArray × Int × α) : Prop := ∀ s e, (f s e).1.size ≤ s.size
theorem manyT_err (hf : KeepsE f) : ∀ (n : Nat) {s : ByteArray} {e : Int}, e ≠ 0 → (manyT f n s e).1 = s ∧ (manyT f n s e).2.1 = e
  | 0, _, _, _ => ⟨rfl, rfl⟩
  | n + 1, s, e, h => by
    obtain ⟨h1, h2⟩ := hf s e h
    rw [manyT, h1, h2]
    exact manyT_err hf n h
theorem manyT_less (hf : LessT f) : ∀ (n : Nat) (s : ByteArray) (e : Int), (manyT f n s e).1.size ≤ s.size
  | 0, _, _ => Nat.le_refl _
  | n + 1, s, e => by rw [manyT]; exact Nat.le_trans (manyT_less hf n _ _) (hf s e)
theorem manyT_len : ∀ (n : Nat) (s : ByteArray) (e : Int), (manyT f n s e).2.2.length = n
  | 0, _, _ => rfl
  | n + 1, s, e => by rw [manyT, List.length_cons, manyT_len n]
theorem manyT_all {P : α → Prop} (hf : ∀ s e, P (f s e).2.2) : ∀ (n : Nat) (s : ByteArray) (e : Int), ∀ x ∈ (manyT f n s e).2.2, P x
  | 0, _, _, x, hx => by simp [manyT] at hx
  | n + 1, s, e, x, hx => by
    rw [manyT] at hx
    rcases List.mem_cons.1 hx with h | h
    · rw [h]; exact hf s e
    · exact manyT_all hf n _ _ x h
def aheadM (D : List α) (q : ByteArray × Int × List α) : ByteArray × Int × List α := (q.1, q.2.1, D ++ q.2.2)
theorem manyT_step {n k : Nat} (hk : k < n) {s s1 : ByteArray} {e e1 : Int} {x : α} (h : f s e = (s1, e1, x)) (D : List α) :
    aheadM D (manyT f (n - k) s e) = aheadM (D ++ [x]) (manyT f (n - (k + 1)) s1 e1) := by
  obtain ⟨m, hm⟩ : ∃ m, n - k = m + 1 := ⟨n - k - 1, by omega⟩
  rw [hm, show n - (k + 1) = m by omega, manyT, h]
  simp [aheadM]
/-- What a list comes to. -/
def gotM (e : Int) (L : List α) : List α := if e = 0 then L else []
end
/-! ### how many -/
def upT (s : ByteArray) (e n most : Int) : ByteArray × Int × Int := if most < (takeT s e n).2.2 then ((takeT s e n).1, 18, 0) else takeT s e n
theorem upT_err {s : ByteArray} {e n most : Int} (h : e ≠ 0) (hm : 0 ≤ most) : upT s e n most = (s, e, 0) := by
  unfold upT
  rw [takeT_err h, if_neg (by show ¬ most < 0; omega)]
theorem upT_val (s : ByteArray) (e : Int) (m : Nat) (most : Int) : 0 ≤ (upT s e m most).2.2 ∧ (upT s e m most).2.2 < 256 ^ m ∧ (0 ≤ most → (upT s e m most).2.2 ≤ most) := by
  have h := take_val s e m
  unfold upT
  split
  · exact ⟨Int.le_refl _, Int.lt_of_le_of_lt h.1 h.2, fun h => h⟩
  · exact ⟨h.1, h.2, fun _ => by omega⟩
theorem upT_less (s : ByteArray) (e n most : Int) : (upT s e n most).1.size ≤ s.size := by
  have h : (takeT s e n).1.size ≤ s.size := take_len (s1 := (takeT s e n).1) (e1 := (takeT s e n).2.1) (v := (takeT s e n).2.2) rfl
  unfold upT
  split <;> exact h
/-- Where something is wrong, none. -/
theorem upT_zero {s s1 : ByteArray} {e e1 n most v : Int} (h : upT s e n most = (s1, e1, v)) (he : e1 ≠ 0) : v = 0 := by
  unfold upT at h
  split at h
  · cases h; rfl
  · unfold takeT at h
    split at h
    · cases h; rfl
    split at h
    · cases h; rfl
    split at h
    · cases h; rfl
    · cases h; exact absurd rfl he
/-! ### a container, a pod -/
def contT (s : ByteArray) (e : Int) : ByteArray × Int × C2 :=
  ((textT (textT s e).1 (textT s e).2.1).1, (textT (textT s e).1 (textT s e).2.1).2.1, ⟨(textT s e).2.2, (textT (textT s e).1 (textT s e).2.1).2.2⟩)
theorem contT_eq {s s1 s2 x1 x2 : ByteArray} {e e1 e2 : Int} (h1 : textT s e = (s1, e1, x1)) (h2 : textT s1 e1 = (s2, e2, x2)) : contT s e = (s2, e2, ⟨x1, x2⟩) := by
  simp only [contT, h1, h2]
theorem textT_len' (s : ByteArray) (e : Int) : (textT s e).1.size ≤ s.size ∧ (textT s e).2.2.size ≤ 4096 := textT_len (s1 := (textT s e).1) (e1 := (textT s e).2.1) (x := (textT s e).2.2) rfl
theorem contT_keeps : KeepsE contT := fun s e h => by
  rw [contT_eq (textT_err h) (textT_err h)]; exact ⟨rfl, rfl⟩
theorem contT_less : LessT contT := fun _ _ => Nat.le_trans (textT_len' _ _).1 (textT_len' _ _).1
theorem contT_fit (s : ByteArray) (e : Int) : (contT s e).2.2.name.size ≤ 4096 ∧ (contT s e).2.2.image.size ≤ 4096 := ⟨(textT_len' _ _).2, (textT_len' _ _).2⟩
/-- The takes of a pod, told. -/
structure Pod2T (s : ByteArray) (e : Int) (s1 s2 s3 s4 s5 s6 s7 x1 x2 x3 : ByteArray) (e1 e2 e3 e4 e5 e6 e7 v g n : Int) (L : List C2) : Prop where
  h1 : textT s e = (s1, e1, x1)
  h2 : textT s1 e1 = (s2, e2, x2)
  h3 : textT s2 e2 = (s3, e3, x3)
  h4 : takeT s3 e3 1 = (s4, e4, v)
  h5 : takeT s4 e4 2 = (s5, e5, g)
  h6 : upT s5 e5 1 16 = (s6, e6, n)
  h7 : manyT contT n.toNat s6 e6 = (s7, e7, L)
/-- A pod behind its three texts. -/
def pod2N (s : ByteArray) (e : Int) (x1 x2 x3 : ByteArray) : ByteArray × Int × P2 :=
  ((manyT contT (upT (takeT (takeT s e 1).1 (takeT s e 1).2.1 2).1 (takeT (takeT s e 1).1 (takeT s e 1).2.1 2).2.1 1 16).2.2.toNat (upT (takeT (takeT s e 1).1 (takeT s e 1).2.1 2).1 (takeT (takeT s e 1).1 (takeT s e 1).2.1 2).2.1 1 16).1 (upT (takeT (takeT s e 1).1 (takeT s e 1).2.1 2).1 (takeT (takeT s e 1).1 (takeT s e 1).2.1 2).2.1 1 16).2.1).1,
   (manyT contT (upT (takeT (takeT s e 1).1 (takeT s e 1).2.1 2).1 (takeT (takeT s e 1).1 (takeT s e 1).2.1 2).2.1 1 16).2.2.toNat (upT (takeT (takeT s e 1).1 (takeT s e 1).2.1 2).1 (takeT (takeT s e 1).1 (takeT s e 1).2.1 2).2.1 1 16).1 (upT (takeT (takeT s e 1).1 (takeT s e 1).2.1 2).1 (takeT (takeT s e 1).1 (takeT s e 1).2.1 2).2.1 1 16).2.1).2.1,
   ⟨x1, x2, x3, (takeT s e 1).2.2, (takeT (takeT s e 1).1 (takeT s e 1).2.1 2).2.2,
    (manyT contT (upT (takeT (takeT s e 1).1 (takeT s e 1).2.1 2).1 (takeT (takeT s e 1).1 (takeT s e 1).2.1 2).2.1 1 16).2.2.toNat (upT (takeT (takeT s e 1).1 (takeT s e 1).2.1 2).1 (takeT (takeT s e 1).1 (takeT s e 1).2.1 2).2.1 1 16).1 (upT (takeT (takeT s e 1).1 (takeT s e 1).2.1 2).1 (takeT (takeT s e 1).1 (takeT s e 1).2.1 2).2.1 1 16).2.1).2.2⟩)
def pod2T (s : ByteArray) (e : Int) : ByteArray × Int × P2 :=
  pod2N (textT (textT (textT s e).1 (textT s e).2.1).1 (textT (textT s e).1 (textT s e).2.1).2.1).1 (textT (textT (textT s e).1 (textT s e).2.1).1 (textT (textT s e).1 (textT s e).2.1).2.1).2.1
    (textT s e).2.2 (textT (textT s e).1 (textT s e).2.1).2.2 (textT (textT (textT s e).1 (textT s e).2.1).1 (textT (textT s e).1 (textT s e).2.1).2.1).2.2
theorem pod2T_eq {s s1 s2 s3 s4 s5 s6 s7 x1 x2 x3 : ByteArray} {e e1 e2 e3 e4 e5 e6 e7 v g n : Int} {L : List C2} (h : Pod2T s e s1 s2 s3 s4 s5 s6 s7 x1 x2 x3 e1 e2 e3 e4 e5 e6 e7 v g n L) :
    pod2T s e = (s7, e7, ⟨x1, x2, x3, v, g, L⟩) := by
  simp only [pod2T, pod2N, h.h1, h.h2, h.h3, h.h4, h.h5, h.h6, h.h7]
theorem pod2T_ex (s : ByteArray) (e : Int) : ∃ s1 s2 s3 s4 s5 s6 s7 x1 x2 x3 e1 e2 e3 e4 e5 e6 e7 v g n L, Pod2T s e s1 s2 s3 s4 s5 s6 s7 x1 x2 x3 e1 e2 e3 e4 e5 e6 e7 v g n L :=
  ⟨_, _, _, _, _, _, _, _, _, _, _, _, _, _, _, _, _, _, _, _, _, rfl, rfl, rfl, rfl, rfl, rfl, rfl⟩
section
variable {s s1 s2 s3 s4 s5 s6 s7 x1 x2 x3 : ByteArray} {e e1 e2 e3 e4 e5 e6 e7 v g n : Int} {L : List C2}
theorem Pod2T.vals (h : Pod2T s e s1 s2 s3 s4 s5 s6 s7 x1 x2 x3 e1 e2 e3 e4 e5 e6 e7 v g n L) : (0 ≤ v ∧ v ≤ 255) ∧ (0 ≤ g ∧ g ≤ 65535) ∧ 0 ≤ n ∧ n ≤ 16 := by
  have a := take_val s3 e3 1
  have b := take_val s4 e4 2
  have c := upT_val s5 e5 1 16
  rw [show ((1 : Nat) : Int) = 1 from rfl, h.h4] at a
  rw [show ((2 : Nat) : Int) = 2 from rfl, h.h5] at b
  rw [show ((1 : Nat) : Int) = 1 from rfl, h.h6] at c
  have a2 : v < 256 := a.2
  have b2 : g < 65536 := b.2
  exact ⟨⟨a.1, by omega⟩, ⟨b.1, by omega⟩, c.1, c.2.2 (by decide)⟩
theorem Pod2T.le (h : Pod2T s e s1 s2 s3 s4 s5 s6 s7 x1 x2 x3 e1 e2 e3 e4 e5 e6 e7 v g n L) :
    s1.size ≤ s.size ∧ s2.size ≤ s.size ∧ s3.size ≤ s.size ∧ s4.size ≤ s.size ∧ s5.size ≤ s.size ∧ s6.size ≤ s.size ∧ s7.size ≤ s.size := by
  have a1 := textT_len h.h1
  have a2 := textT_len h.h2
  have a3 := textT_len h.h3
  have a4 := take_len h.h4
  have a5 := take_len h.h5
  have a6 := upT_less s5 e5 1 16
  have a7 := manyT_less contT_less n.toNat s6 e6
  rw [h.h6] at a6
  rw [h.h7] at a7
  dsimp only at a6 a7
  omega
theorem Pod2T.len (h : Pod2T s e s1 s2 s3 s4 s5 s6 s7 x1 x2 x3 e1 e2 e3 e4 e5 e6 e7 v g n L) : L.length = n.toNat := by
  have := manyT_len (f := contT) n.toNat s6 e6
  rw [h.h7] at this
  exact this
theorem Pod2T.fit (h : Pod2T s e s1 s2 s3 s4 s5 s6 s7 x1 x2 x3 e1 e2 e3 e4 e5 e6 e7 v g n L) : P2.Fit 4096 ⟨x1, x2, x3, v, g, L⟩ := by
  have b := h.vals
  refine ⟨(textT_len h.h1).2, (textT_len h.h2).2, (textT_len h.h3).2, b.1.1, b.1.2, b.2.1.1, b.2.1.2, fun c hc => ?_⟩
  have := manyT_all (f := contT) (P := fun c => c.name.size ≤ 4096 ∧ c.image.size ≤ 4096) contT_fit n.toNat s6 e6 c
  rw [h.h7] at this
  exact this hc
end
theorem pod2T_keeps : KeepsE pod2T := fun s e h => by
  have hu : upT s e 1 16 = (s, e, 0) := upT_err h (by decide)
  rw [pod2T_eq (s7 := s) (e7 := e) (L := []) ⟨textT_err h, textT_err h, textT_err h, takeT_err h, takeT_err h, hu, rfl⟩]; exact ⟨rfl, rfl⟩
theorem pod2T_less : LessT pod2T := fun s e => by
  obtain ⟨s1, s2, s3, s4, s5, s6, s7, x1, x2, x3, e1, e2, e3, e4, e5, e6, e7, v, g, n, L, h⟩ := pod2T_ex s e
  rw [pod2T_eq h]
  exact h.le.2.2.2.2.2.2
theorem pod2T_fit (s : ByteArray) (e : Int) : (pod2T s e).2.2.Fit 4096 ∧ (pod2T s e).2.2.cs.length ≤ 16 := by
  obtain ⟨s1, s2, s3, s4, s5, s6, s7, x1, x2, x3, e1, e2, e3, e4, e5, e6, e7, v, g, n, L, h⟩ := pod2T_ex s e
  rw [pod2T_eq h]
  refine ⟨h.fit, ?_⟩
  have h1 := h.len
  have h2 := h.vals
  show L.length ≤ 16
  omega
/-! ### a state -/
structure Dec2T (b s1 s2 s3 : ByteArray) (e1 e2 e3 q n : Int) (L : List P2) : Prop where
  h1 : takeT b 0 8 = (s1, e1, q)
  h2 : upT s1 e1 2 1024 = (s2, e2, n)
  h3 : manyT pod2T n.toNat s2 e2 = (s3, e3, L)
def dec2E (e3 q : Int) (s3 : ByteArray) (L : List P2) : Int × Int × List P2 :=
  if endT s3 e3 ≠ 0 then (endT s3 e3, 0, []) else if chk2 L ≠ 0 then (chk2 L, 0, []) else (0, q, L)
def dec2 (b : ByteArray) : Int × Int × List P2 :=
  dec2E (manyT pod2T (upT (takeT b 0 8).1 (takeT b 0 8).2.1 2 1024).2.2.toNat (upT (takeT b 0 8).1 (takeT b 0 8).2.1 2 1024).1 (upT (takeT b 0 8).1 (takeT b 0 8).2.1 2 1024).2.1).2.1 (takeT b 0 8).2.2
    (manyT pod2T (upT (takeT b 0 8).1 (takeT b 0 8).2.1 2 1024).2.2.toNat (upT (takeT b 0 8).1 (takeT b 0 8).2.1 2 1024).1 (upT (takeT b 0 8).1 (takeT b 0 8).2.1 2 1024).2.1).1
    (manyT pod2T (upT (takeT b 0 8).1 (takeT b 0 8).2.1 2 1024).2.2.toNat (upT (takeT b 0 8).1 (takeT b 0 8).2.1 2 1024).1 (upT (takeT b 0 8).1 (takeT b 0 8).2.1 2 1024).2.1).2.2
theorem dec2T_ex (b : ByteArray) : ∃ s1 s2 s3 e1 e2 e3 q n L, Dec2T b s1 s2 s3 e1 e2 e3 q n L := ⟨_, _, _, _, _, _, _, _, _, rfl, rfl, rfl⟩
section
variable {b s1 s2 s3 : ByteArray} {e1 e2 e3 q n : Int} {L : List P2}
theorem dec2_eq (h : Dec2T b s1 s2 s3 e1 e2 e3 q n L) : dec2 b = dec2E e3 q s3 L := by
  simp only [dec2, h.h1, h.h2, h.h3]
theorem Dec2T.vals (h : Dec2T b s1 s2 s3 e1 e2 e3 q n L) : (0 ≤ q ∧ q ≤ 18446744073709551615) ∧ 0 ≤ n ∧ n ≤ 1024 := by
  have a := take_val b 0 8
  have c := upT_val s1 e1 2 1024
  rw [show ((8 : Nat) : Int) = 8 from rfl, h.h1] at a
  rw [show ((2 : Nat) : Int) = 2 from rfl, h.h2] at c
  have a2 : q < 18446744073709551616 := a.2
  exact ⟨⟨a.1, by omega⟩, c.1, c.2.2 (by decide)⟩
theorem Dec2T.le (h : Dec2T b s1 s2 s3 e1 e2 e3 q n L) : s1.size ≤ b.size ∧ s2.size ≤ b.size := by
  have a := take_len h.h1
  have c := upT_less s1 e1 2 1024
  rw [h.h2] at c
  dsimp only at c
  omega
theorem Dec2T.zero (h : Dec2T b s1 s2 s3 e1 e2 e3 q n L) (he : e2 ≠ 0) : n = 0 := upT_zero h.h2 he
theorem Dec2T.fit (h : Dec2T b s1 s2 s3 e1 e2 e3 q n L) : (∀ p ∈ L, p.Fit 4096 ∧ p.cs.length ≤ 16) ∧ L.length = n.toNat := by
  have h1 := manyT_all (f := pod2T) (P := fun p => p.Fit 4096 ∧ p.cs.length ≤ 16) pod2T_fit n.toNat s2 e2
  have h2 := manyT_len (f := pod2T) n.toNat s2 e2
  rw [h.h3] at h1 h2
  exact ⟨h1, h2⟩
end
theorem dec2_fit (b : ByteArray) : (∀ p ∈ (dec2 b).2.2, p.Fit 4096 ∧ p.cs.length ≤ 16) ∧ (dec2 b).2.2.length ≤ 1024 ∧ 0 ≤ (dec2 b).2.1 ∧ (dec2 b).2.1 ≤ 18446744073709551615 := by
  obtain ⟨s1, s2, s3, e1, e2, e3, q, n, L, hD⟩ := dec2T_ex b
  have hv := hD.vals
  have hf := hD.fit
  rw [dec2_eq hD, dec2E]
  split
  · exact ⟨by simp, by simp, by simp, by simp⟩
  split
  · exact ⟨by simp, by simp, by simp, by simp⟩
  · exact ⟨hf.1, by show L.length ≤ 1024; rw [hf.2]; omega, hv.1.1, hv.1.2⟩
end Go.Proofs.Ytphjhlnjfcfdcaa
namespace Go.Proofs
open Go.Shelf
def Try.laysSub_ren : Go.Shelf.Ren := ⟨fun | 219 => 103 | 217 => 104 | 225 => 105 | 224 => 106 | 267 => 107 | 266 => 108 | 314 => 109 | n => n, fun | 9 => 9 | 3 => 3 | 4 => 4 | 5 => 5 | 46 => 120 | 146 => 142 | 51 => 22 | n => n, fun | 1 => 0 | n => n⟩
theorem Try.laysSub : Go.Proofs.Lays.n219 Try.prog Try.laysSub_ren := {
  mixed := by kernel_rfl
  f217 := Try.func104.trans (congrArg some (by kernel_rfl))
  f219 := Try.func103.trans (congrArg some (by kernel_rfl))
  f224 := Try.func106.trans (congrArg some (by kernel_rfl))
  f225 := Try.func105.trans (congrArg some (by kernel_rfl))
  f266 := Try.func108.trans (congrArg some (by kernel_rfl))
  f267 := Try.func107.trans (congrArg some (by kernel_rfl))
  f314 := Try.func109.trans (congrArg some (by kernel_rfl))
  t3 := Try.underlying3
  a3 := Try.isAgg3
  z3 := Try.sizeOf3
  v3 := Try.zeroValue3
  t4 := Try.underlying4
  a4 := Try.isAgg4
  z4 := Try.sizeOf4
  v4 := Try.zeroValue4
  t5 := Try.underlying5
  a5 := Try.isAgg5
  z5 := Try.sizeOf5
  v5 := Try.zeroValue5
  t9 := Try.underlying9
  a9 := Try.isAgg9
  z9 := Try.sizeOf9
  v9 := Try.zeroValue9
  t46 := Try.underlying120
  a46 := Try.isAgg120
  z46 := Try.sizeOf120
  v46 := Try.zeroValue120
  t51 := Try.underlying22
  a51 := Try.isAgg22
  z51 := Try.sizeOf22
  v51 := Try.zeroValue22
  t146 := Try.underlying142
  a146 := Try.isAgg142
  z146 := Try.sizeOf142
  v146 := Try.zeroValue142
  g1 := by kernel_rfl }
def Try.lays169_ren : Go.Shelf.Ren := ⟨fun | 169 => 40 | n => n, fun | 70 => 68 | 9 => 9 | 0 => 0 | 72 => 71 | 37 => 69 | 127 => 119 | 3 => 3 | 5 => 5 | n => n, fun | n => n⟩
theorem Try.lays169 : Go.Proofs.Lays.n169 Try.prog Try.lays169_ren := {
  mixed := by kernel_rfl
  f169 := Try.func40.trans (congrArg some (by kernel_rfl))
  t0 := Try.underlying0
  a0 := Try.isAgg0
  z0 := Try.sizeOf0
  v0 := Try.zeroValue0
  t3 := Try.underlying3
  a3 := Try.isAgg3
  z3 := Try.sizeOf3
  v3 := Try.zeroValue3
  t9 := Try.underlying9
  a9 := Try.isAgg9
  z9 := Try.sizeOf9
  v9 := Try.zeroValue9
  t37 := Try.underlying69
  a37 := Try.isAgg69
  z37 := Try.sizeOf69
  v37 := Try.zeroValue69
  t70 := Try.underlying68
  a70 := Try.isAgg68
  z70 := Try.sizeOf68
  v70 := Try.zeroValue68
  t72 := Try.underlying71
  a72 := Try.isAgg71
  z72 := Try.sizeOf71
  v72 := Try.zeroValue71
  t127 := Try.underlying119
  a127 := Try.isAgg119
  z127 := Try.sizeOf119
  v127 := Try.zeroValue119 }
theorem Try.Builder_Extra_169 : Builder.Extra Try.prog Try.lays169_ren := {
  sizeBuilder := by kernel_rfl
  liesBuilder := by kernel_rfl
  t5 := Try.underlying5
  a5 := Try.isAgg5
  z5 := Try.sizeOf5
  v5 := Try.zeroValue5
  infoByte := by kernel_rfl
  cellsByte := by kernel_rfl
  sizeByte := by kernel_rfl
  neB5 := by decide }
open Go.RowKit in
/-- (*strings.Builder).String: "String returns the accumulated string.": OF A BUILDER THAT HOLDS AT LEAST ONE BYTE. ✋ THE MODEL FREEZES THOSE BYTES IN THE BUFFER (unsafe.String): a later write INTO them ends the model's run without an answer; a later append BEHIND them goes on. The statement's order of evaluation is drawn: one draw. (LAID: no walk: one application.) -/
theorem Try.Builder_String (B b : Nat) (l : List UInt8) (w : World) (h : Lib.IsBuilder 71 5 B b (Lib.byteCells l) w) (h0 : l ≠ []) :
    Calls Try.prog 40 #[.pointer (some ⟨b, 0, none⟩)] w fun e w' => e = .returned (.string ⟨l.toArray⟩) ∧ Below B w w' := Any.Builder_String Try.lays169 Try.Builder_Extra_169 B b l w h h0
open Go.RowKit in
/-- (*strings.Builder).String OF A BUILDER THAT HOLDS NO BYTE: the empty string. (Its buffer is nil, or a row of which it has taken nothing yet; where that row has NO capacity the model lays one new block for unsafe.SliceData's 'some address'.) One draw. (LAID: no walk: one application.) -/
theorem Try.Builder_String_empty (B b : Nat) (w : World) (h : Lib.IsBuilder 71 5 B b [] w) (hBw : B ≤ w.heap.size) :
    Calls Try.prog 40 #[.pointer (some ⟨b, 0, none⟩)] w fun e w' => e = .returned (.string ⟨#[]⟩) ∧ Below B w w' := Any.Builder_String_empty Try.lays169 Try.Builder_Extra_169 B b w h hBw
open Go.RowKit in
/-- (*strings.Builder).String: "String returns the accumulated string.": WHATEVER THE BUILDER HOLDS. (LAID: no walk: one application.) -/
theorem Try.Builder_String_any (B b : Nat) (l : List UInt8) (w : World) (h : Lib.IsBuilder 71 5 B b (Lib.byteCells l) w) (hBw : B ≤ w.heap.size) :
    Calls Try.prog 40 #[.pointer (some ⟨b, 0, none⟩)] w fun e w' => e = .returned (.string ⟨l.toArray⟩) ∧ Below B w w' := Any.Builder_String_any Try.lays169 Try.Builder_Extra_169 B b l w h hBw
end Go.Proofs
namespace Go.Proofs.Ytphjhlnjfcfdcaa
open Go.ChangeShapes Go.WideShapes Go.ChangeAt Go.RowKit Go.Shelf
attribute [local go_sem] Oper.semAt_some
variable {w : World}

/-- How long a text is; nothing else has a length. -/
def strSize : Value → Nat
  | .string t => t.size
  | _ => 0
theorem strSize_string (t : ByteArray) : strSize (.string t) = t.size := rfl
theorem index1_any (l : List UInt8) (w : World) : Calls Try.prog 103 #[.string (tx l), .string ⟨#[46]⟩] w fun e w' => e = .returned (.int .i64 (Lib.indexByte l 46)) ∧ w = w' := by
  refine (Any.stringslite_Index_one Try.laysSub (tx l) 46 w).mono ?_
  rintro e w' ⟨h1, h2⟩
  rw [tx_toList] at h1
  exact ⟨h1, h2.symm⟩
/-- The first line, what is behind it, and whether there was a line feed. -/
def cutF (l : List UInt8) : List UInt8 × List UInt8 × Bool := if Lib.indexByte l 46 = -1 then (l, [], false) else (l.take (Lib.indexByte l 46).toNat, l.drop ((Lib.indexByte l 46).toNat + 1), true)
theorem cutS_any (l : List UInt8) (w : World) (hs : l.length ≤ 1000000) : Calls Try.prog 102 #[.string (tx l), .string ⟨#[46]⟩] w fun e w' => e = .returned (.tuple #[.string (tx (cutF l).1), .string (tx (cutF l).2.1), .bool (cutF l).2.2]) ∧ Fresh w w' := by
  have HI := Lib.hid (fun W => index1_any l W)
  rcases indexByte_cases l 46 with h | ⟨k, h⟩
  · have HC : Hid (cutF l = (l, [], false)) := by rw [Hid, cutF, if_pos h]
    rw [h] at HI
    clear h
    rw [HC.out]
    dsimp only
    clear HC
    generalize tx l = s at *
    go_enter Try.func102, Try.ntmps102
    go_wp2_with (go_at_call 103; refine (HI.out _).mono ?_; rintro e w' ⟨rfl, rfl⟩)
    go_ret3
    exact ⟨rfl, Fresh.refl _⟩
  · have HC : Hid (cutF l = (l.take k, l.drop (k + 1), true)) := by rw [Hid, cutF, if_neg (by omega), h]; simp
    have hk := (indexByte_some l 46 k h).1
    rw [h] at HI
    clear h
    rw [HC.out]
    dsimp only
    clear HC
    have HSZ := Lib.hid (tx_size l)
    have q1 : (tx l).extract 0 k = tx (l.take k) := by rw [tx_extract, tx_toList]; simp
    have q2 : (tx l).extract (k + 1) (tx l).size = tx (l.drop (k + 1)) := by
      rw [tx_extract, tx_toList, tx_size]
      congr 1
      rw [List.take_of_length_le (by simp)]
    have hks : k < (tx l).size := by rw [HSZ.out]; exact hk
    have hsz : (tx l).size ≤ 1000000 := by rw [HSZ.out]; exact hs
    generalize tx (l.take k) = r1 at *
    generalize tx (l.drop (k + 1)) = r2 at *
    generalize tx l = s at *
    clear HSZ hk
    have c1 : (0 : Int) ≤ ↑k := by omega
    have c2 : (↑k : Int) ≤ ↑s.size := by omega
    have c3 : (0 : Int) ≤ ↑k + 1 := by omega
    have c4 : (↑k + 1 : Int) ≤ ↑s.size := by omega
    go_enter Try.func102, Try.ntmps102
    go_wp2_with (go_at_call 103; refine (HI.out _).mono ?_; rintro e w' ⟨rfl, rfl⟩)
    go_region
    go_wp2
    go_ret3
    exact ⟨rfl, Fresh.drew (Fresh.refl _)⟩
theorem cut_any (l : List UInt8) (w : World) (hs : l.length ≤ 1000000) : Calls Try.prog 98 #[.string (tx l), .string ⟨#[46]⟩] w fun e w' => e = .returned (.tuple #[.string (tx (cutF l).1), .string (tx (cutF l).2.1), .bool (cutF l).2.2]) ∧ Fresh w w' := by
  have HI := Lib.hid (fun W => cutS_any l W hs)
  generalize cutF l = c at *
  obtain ⟨a, b, d⟩ := c
  dsimp only at *
  generalize tx l = s at *
  generalize tx a = r1 at *
  generalize tx b = r2 at *
  go_enter Try.func98, Try.ntmps98
  go_wp2_with fail
  refine (HI.out _).mono ?_
  rintro e w' ⟨rfl, hf⟩
  have HF := Lib.hid hf
  clear hf
  go_wp2
  go_ret3
  exact ⟨rfl, HF.out⟩
theorem lns_cut_no (l : List UInt8) (h : (cutF l).2.2 = false) : lnsA [] l = [(cutF l).1] := by
  unfold cutF at *
  by_cases hx : Lib.indexByte l 46 = -1
  · rw [if_pos hx]
    exact lnsA_none l [] (indexByte_none l 46 hx)
  · rw [if_neg hx] at h
    cases h
theorem lns_cut_yes (l : List UInt8) (h : (cutF l).2.2 = true) : lnsA [] l = (cutF l).1 :: lnsA [] (cutF l).2.1 ∧ (cutF l).2.1.length < l.length := by
  unfold cutF at *
  by_cases hx : Lib.indexByte l 46 = -1
  · rw [if_pos hx] at h
    cases h
  · rw [if_neg hx]
    rcases indexByte_cases l 46 with h1 | ⟨k, h1⟩
    · exact absurd h1 hx
    · rw [h1, Int.toNat_natCast]
      obtain ⟨h2, h3, h4⟩ := indexByte_some l 46 k h1
      refine ⟨?_, by simp; omega⟩
      conv => lhs; rw [h3]
      rw [lnsA_cut _ _ _ h4]
      simp
def clip (l : List UInt8) : List UInt8 := l.take 1000000
theorem clip_len (l : List UInt8) : (clip l).length ≤ 1000000 := by simp [clip]; omega
theorem clip_self {l : List UInt8} (h : l.length ≤ 1000000) : clip l = l := List.take_of_length_le h
/-- A part as it is handed over. -/
def encL (x : List UInt8) : Array Value := #[.string (tx (clip x))]
theorem cutF_len (l : List UInt8) : (cutF l).1.length ≤ l.length := by
  unfold cutF
  split
  · exact Nat.le_refl _
  · simp; omega
theorem cutF_len2 (l : List UInt8) : (cutF l).2.1.length ≤ l.length := by
  unfold cutF
  split
  · simp
  · simp
set_option maxRecDepth 100000 in
set_option maxHeartbeats 2000000 in
theorem iter_stops (l : List UInt8) (Bn : Nat) (w : World) (n : Nat) (hn : 2 ≤ n) (hs : l.length ≤ 1000000) (hBn : Bn < w.heap.size) (hc : w.cell? ⟨Bn, 0, none⟩ = some (.string (tx l))) :
    SeqStopsK Fence.wide n Try.prog 97 #[.pointer (some ⟨Bn, 0, none⟩)] encL (fun _ _ => True) (fun xs => xs = lnsA [] l) (fun pre => pre <+: lnsA [] l) (lnsA [] l).length w := fun y J Jx W hW hJ _ hY h0 => by
  have hc' : W.cell? ⟨Bn, 0, none⟩ = some (.string (tx l)) := (hW.cell (p := ⟨Bn, 0, none⟩) hBn).trans hc
  dsimp only
  have hln := lnsA_len [] l
  obtain ⟨full, hfull⟩ : ∃ full, full = lnsA [] l := ⟨_, rfl⟩
  rw [← hfull] at hY hln
  rw [← hfull]
  have HFULL := Lib.hid hfull
  have HLN : Hid (full.length ≤ 1000001) := by rw [Hid]; omega
  have HY := Lib.hid hY
  have HJ := Lib.hid hJ
  have H0 := Lib.hid h0
  clear hfull hln hY hJ h0 hc hW
  refine callsIn_of_wp Try.func97 rfl trivial ?_ rfl
  simp only [Try.ntmps97, List.size_toArray, List.length_cons, List.length_nil, Nat.reduceAdd, Nat.reduceSub, Array.replicate_succ, Array.replicate_zero, List.push_toArray, List.append_toArray, List.nil_append, List.cons_append]
  gi_wp2
  gi_loopw [3, 4] (fun a3 a4 wr => ∃ (pre : List (List UInt8)) (r : List UInt8) (more : Bool), a3 = .string (tx r) ∧ a4 = .bool more ∧ Hid (J pre wr) ∧ Hid (r.length ≤ 1000000) ∧ Hid (more = true → full = pre ++ lnsA [] r) ∧ Hid (more = false → full = pre))
    (fun a3 a4 _ => match a4 with | .bool true => strSize a3 + 1 | _ => 0)
  case atStart => exact ⟨[], l, true, rfl, rfl, H0.out, hs, fun _ => HFULL.out, fun h => by cases h⟩
  case round =>
    obtain ⟨pre, r, more, rfl, rfl, HJS, HR, HT, HF⟩ := hrel
    cases more with
    | false =>
      gi_wp2
      go_end0
      exact ⟨⟨_, rfl⟩, .inl (by rw [HF.out (by simp)]; exact HJS.out)⟩
    | true =>
      have HCUT := Lib.hid (cut_any r wr HR.out)
      have HNO := Lib.hid (lns_cut_no r)
      have HYES := Lib.hid (lns_cut_yes r)
      have hc1 := cutF_len r
      have hc2 := cutF_len2 r
      generalize cutF r = c at *
      obtain ⟨c1, c2, m⟩ := c
      dsimp only at *
      have HC1 : Hid (clip c1 = c1) := clip_self (by have := HR.out; omega)
      have HC2 : Hid (c2.length ≤ 1000000) := by have := HR.out; rw [Hid]; omega
      clear hc1 hc2
      have HSZ := Lib.hid (tx_size r)
      gi_wp2_with (fail)
      refine ⟨trivial, fun _ => by omega, ?_⟩
      refine (callsIn_wide.2 HCUT.out).mono ?_
      rintro e W2 ⟨rfl, hf⟩
      have HJ2 := Lib.hid (HJ.out pre wr W2 none HJS.out ⟨hf.os, hf.tape, hf.output, hf.size, fun k hk _ => hf.block k hk⟩ (fun r e => by cases e))
      clear hf
      have hnum : full = pre ++ c1 :: (if m = true then lnsA [] c2 else []) := by
        rw [HT.out (by simp)]
        cases m with
        | false => rw [HNO.out rfl]; rfl
        | true => rw [(HYES.out rfl).1]; rfl
      have hlt : pre.length < full.length := by rw [hnum]; simp
      obtain ⟨fn, tmps, assign, body, hy, hR⟩ := HY.out pre c1 W2 HJ2.out hlt
      dsimp only [encL] at hy
      rw [HC1.out] at hy
      have HNUM := Lib.hid hnum
      have HRR := Lib.hid hR
      clear hnum hlt hR
      gi_wp2_with (fail)
      refine ⟨fun _ => by omega, ?_⟩
      refine HRR.out.mono ?_
      clear HRR hy
      rintro e W3 (⟨rfl, hJ3, _⟩ | ⟨rfl, hJx3⟩)
      · have HJ3 := Lib.hid hJ3
        clear hJ3
        gi_wp2
        go_roundw
        case rel =>
          refine ⟨pre ++ [c1], c2, m, rfl, rfl, HJ3.out, HC2.out, ?_, ?_⟩
          · intro h
            rw [HNUM.out, if_pos h]; simp
          · intro h
            rw [HNUM.out, if_neg (by rw [h]; simp)]
        case measure =>
          cases m with
          | false => simp
          | true =>
            have := (HYES.out rfl).2
            simp [strSize_string, tx_size]; omega
      · have HJ3 := Lib.hid hJx3
        clear hJx3
        gi_wp2
        refine bodyPost_ret (results_none rfl _ _ _) rfl ?_
        exact ⟨⟨_, rfl⟩, .inr ⟨pre ++ [c1], ⟨if m = true then lnsA [] c2 else [], by rw [HNUM.out]; simp⟩, HJ3.out⟩⟩
theorem labels_any (s : ByteArray) (w : World) : Calls Try.prog 87 #[.string s] w fun e w' => e = .returned (.func (.func 97) #[] #[.pointer (some ⟨w.heap.size, 0, none⟩)]) ∧ w' = w.alloc (.cells #[.string s] 9) := by
  go_enter Try.func87, Try.ntmps87
  go_wp2
  go_ret
  exact ⟨rfl, rfl⟩
end Go.Proofs.Ytphjhlnjfcfdcaa
namespace Go.Proofs.Ytphjhlnjfcfdcaa
open Go.ChangeShapes Go.WideShapes Go.ChangeAt Go.RowKit

theorem small_any (c : UInt8) (w : World) : Calls Try.prog 91 #[.int .u8 (c.toNat : Int)] w fun e w' => e = .returned (.bool (smallB c)) ∧ w = w' := by
  have HC : Hid (smallB c = (decide (97 ≤ c.toNat) && decide (c.toNat ≤ 122))) := rfl
  generalize smallB c = r at *
  generalize c.toNat = n at *
  go_enter Try.func91, Try.ntmps91
  go_wp2
  all_goals go_ret
  all_goals refine ⟨?_, rfl⟩
  all_goals rw [HC.out]
  all_goals refine ret_bool ?_
  all_goals rw [Bool.eq_iff_iff]
  all_goals simp only [Bool.and_eq_true, decide_eq_true_eq, Bool.false_eq_true, false_iff]
  all_goals omega
theorem cap_any (c : UInt8) (w : World) : Calls Try.prog 99 #[.int .u8 (c.toNat : Int)] w fun e w' => e = .returned (.bool (capB c)) ∧ w = w' := by
  have HC : Hid (capB c = (decide (65 ≤ c.toNat) && decide (c.toNat ≤ 90))) := rfl
  generalize capB c = r at *
  generalize c.toNat = n at *
  go_enter Try.func99, Try.ntmps99
  go_wp2
  all_goals go_ret
  all_goals refine ⟨?_, rfl⟩
  all_goals rw [HC.out]
  all_goals refine ret_bool ?_
  all_goals rw [Bool.eq_iff_iff]
  all_goals simp only [Bool.and_eq_true, decide_eq_true_eq, Bool.false_eq_true, false_iff]
  all_goals omega
theorem dig_any (c : UInt8) (w : World) : Calls Try.prog 88 #[.int .u8 (c.toNat : Int)] w fun e w' => e = .returned (.bool (digB c)) ∧ w = w' := by
  have HC : Hid (digB c = (decide (48 ≤ c.toNat) && decide (c.toNat ≤ 57))) := rfl
  generalize digB c = r at *
  generalize c.toNat = n at *
  go_enter Try.func88, Try.ntmps88
  go_wp2
  all_goals go_ret
  all_goals refine ⟨?_, rfl⟩
  all_goals rw [HC.out]
  all_goals refine ret_bool ?_
  all_goals rw [Bool.eq_iff_iff]
  all_goals simp only [Bool.and_eq_true, decide_eq_true_eq, Bool.false_eq_true, false_iff]
  all_goals omega
theorem inl_any (c : UInt8) (w : World) : Calls Try.prog 86 #[.int .u8 (c.toNat : Int)] w fun e w' => e = .returned (.bool (inL c)) ∧ w = w' := by
  have Hsmall := Lib.hid (fun W => small_any c W)
  have Hdig := Lib.hid (fun W => dig_any c W)
  have HC : Hid (inL c = (smallB c || (digB c || c == 45))) := rfl
  have H9 : Hid ((c == 45) = decide (c.toNat = 45)) := by
    rw [Hid, Bool.eq_iff_iff]
    simp only [beq_iff_eq, decide_eq_true_eq]
    rw [← UInt8.toNat_inj]; rfl
  generalize smallB c = b0 at *
  generalize digB c = b1 at *
  generalize (c == 45) = z at *
  generalize inL c = r at *
  generalize c.toNat = n at *
  cases b0 <;> cases b1
  all_goals go_enter Try.func86, Try.ntmps86
  all_goals go_wp2_with (first | (go_at_call 91; refine (Hsmall.out _).mono ?_; rintro e w' ⟨rfl, rfl⟩) | (go_at_call 88; refine (Hdig.out _).mono ?_; rintro e w' ⟨rfl, rfl⟩))
  all_goals go_ret
  all_goals refine ⟨?_, rfl⟩
  all_goals rw [HC.out]
  all_goals refine ret_bool ?_
  all_goals (try rw [H9.out])
  all_goals (try (rw [Bool.eq_iff_iff]; simp))
  all_goals (try omega)
theorem inv_any (c : UInt8) (w : World) : Calls Try.prog 89 #[.int .u8 (c.toNat : Int)] w fun e w' => e = .returned (.bool (inV c)) ∧ w = w' := by
  have Hsmall := Lib.hid (fun W => small_any c W)
  have Hcap := Lib.hid (fun W => cap_any c W)
  have Hdig := Lib.hid (fun W => dig_any c W)
  have HC : Hid (inV c = (smallB c || (capB c || (digB c || c == 95)))) := rfl
  have H9 : Hid ((c == 95) = decide (c.toNat = 95)) := by
    rw [Hid, Bool.eq_iff_iff]
    simp only [beq_iff_eq, decide_eq_true_eq]
    rw [← UInt8.toNat_inj]; rfl
  generalize smallB c = b0 at *
  generalize capB c = b1 at *
  generalize digB c = b2 at *
  generalize (c == 95) = z at *
  generalize inV c = r at *
  generalize c.toNat = n at *
  cases b0 <;> cases b1 <;> cases b2
  all_goals go_enter Try.func89, Try.ntmps89
  all_goals go_wp2_with (first | (go_at_call 91; refine (Hsmall.out _).mono ?_; rintro e w' ⟨rfl, rfl⟩) | (go_at_call 99; refine (Hcap.out _).mono ?_; rintro e w' ⟨rfl, rfl⟩) | (go_at_call 88; refine (Hdig.out _).mono ?_; rintro e w' ⟨rfl, rfl⟩))
  all_goals go_ret
  all_goals refine ⟨?_, rfl⟩
  all_goals rw [HC.out]
  all_goals refine ret_bool ?_
  all_goals (try rw [H9.out])
  all_goals (try (rw [Bool.eq_iff_iff]; simp))
  all_goals (try omega)
theorem fits_any (s : ByteArray) (m : Nat) (w : World) (hs : s.size ≤ maxLen) : Calls Try.prog 84 #[.string s, .int .i64 (m : Int)] w fun e w' => e = .returned (.bool (decide (1 ≤ s.size) && decide (s.size ≤ m))) ∧ w = w' := by
  unfold maxLen at hs
  go_enter Try.func84, Try.ntmps84
  go_wp2
  all_goals go_ret
  all_goals refine ⟨?_, rfl⟩
  all_goals refine ret_bool ?_
  all_goals rw [Bool.eq_iff_iff]
  all_goals simp only [Bool.and_eq_true, decide_eq_true_eq, Bool.false_eq_true, false_iff]
  all_goals omega
set_option maxRecDepth 100000 in
theorem allL_any (s : ByteArray) (w : World) (hs : s.size ≤ 1000) : Calls Try.prog 85 #[.string s, .func (.func 86) #[] #[]] w fun e w' => e = .returned (.bool (s.data.toList.all inL)) ∧ w = w' := by
  have HP := Lib.hid (fun c W => inl_any c W)
  have HSZ : Hid (s.data.toList.length = s.size) := by rw [Hid]; simp
  go_enter Try.func85, Try.ntmps85
  go_wp2
  go_loopw [8] (fun a8 wr => ∃ (k : Nat), a8 = .int .i64 (k : Int) ∧ k ≤ s.size ∧ w = wr ∧ Hid (∀ c ∈ s.data.toList.take k, inL c = true)) (fun a8 _ => s.size - (intOf a8).toNat)
  case atStart => exact ⟨0, rfl, Nat.zero_le _, rfl, by simp [Hid]⟩
  case round =>
    obtain ⟨k, rfl, hk, rfl, HA⟩ := hrel
    by_cases hlt : k < s.size
    · have HG : Hid (s.data.toList[k]? = some s[k]) := by rw [Hid, List.getElem?_eq_getElem (by rw [HSZ.out]; exact hlt)]; rfl
      have HT := Lib.hid (take_snoc s k hlt)
      have HC := Lib.hid (fun W => HP.out s[k] W)
      cases hp : inL s[k] with
      | false =>
        rw [hp] at HC
        have HR : Hid (s.data.toList.all inL = false) := by
          rw [Hid, Bool.eq_false_iff]
          intro h
          have := List.all_eq_true.1 h s[k] (List.mem_of_getElem? HG.out)
          rw [hp] at this; cases this
        clear hp
        go_wp2_with (go_at_call 86; refine (HC.out _).mono ?_; rintro e w' ⟨rfl, rfl⟩)
        all_goals try (exfalso; omega)
        go_ret
        exact ⟨ret_bool HR.out.symm, rfl⟩
      | true =>
        rw [hp] at HC
        have HN : Hid (∀ c ∈ s.data.toList.take (k + 1), inL c = true) := by
          rw [Hid, HT.out]
          intro c hc
          rcases List.mem_append.1 hc with h | h
          · exact HA.out c h
          · rw [List.mem_singleton.1 h]; exact hp
        clear hp
        go_wp2_with (go_at_call 86; refine (HC.out _).mono ?_; rintro e w' ⟨rfl, rfl⟩)
        all_goals try (exfalso; omega)
        go_roundw
        case rel => exact ⟨k + 1, by simp, by omega, by trivial, HN.out⟩
        case measure => simp [intOf]; omega
    · obtain rfl : k = s.size := by omega
      have HR : Hid (s.data.toList.all inL = true) := by
        rw [Hid, List.all_eq_true]
        intro c hc
        exact HA.out c (by rw [← HSZ.out, List.take_length]; exact hc)
      go_wp2
      all_goals try (exfalso; omega)
      go_ret
      exact ⟨ret_bool HR.out.symm, rfl⟩
set_option maxRecDepth 100000 in
theorem allV_any (s : ByteArray) (w : World) (hs : s.size ≤ 1000) : Calls Try.prog 85 #[.string s, .func (.func 89) #[] #[]] w fun e w' => e = .returned (.bool (s.data.toList.all inV)) ∧ w = w' := by
  have HP := Lib.hid (fun c W => inv_any c W)
  have HSZ : Hid (s.data.toList.length = s.size) := by rw [Hid]; simp
  go_enter Try.func85, Try.ntmps85
  go_wp2
  go_loopw [8] (fun a8 wr => ∃ (k : Nat), a8 = .int .i64 (k : Int) ∧ k ≤ s.size ∧ w = wr ∧ Hid (∀ c ∈ s.data.toList.take k, inV c = true)) (fun a8 _ => s.size - (intOf a8).toNat)
  case atStart => exact ⟨0, rfl, Nat.zero_le _, rfl, by simp [Hid]⟩
  case round =>
    obtain ⟨k, rfl, hk, rfl, HA⟩ := hrel
    by_cases hlt : k < s.size
    · have HG : Hid (s.data.toList[k]? = some s[k]) := by rw [Hid, List.getElem?_eq_getElem (by rw [HSZ.out]; exact hlt)]; rfl
      have HT := Lib.hid (take_snoc s k hlt)
      have HC := Lib.hid (fun W => HP.out s[k] W)
      cases hp : inV s[k] with
      | false =>
        rw [hp] at HC
        have HR : Hid (s.data.toList.all inV = false) := by
          rw [Hid, Bool.eq_false_iff]
          intro h
          have := List.all_eq_true.1 h s[k] (List.mem_of_getElem? HG.out)
          rw [hp] at this; cases this
        clear hp
        go_wp2_with (go_at_call 89; refine (HC.out _).mono ?_; rintro e w' ⟨rfl, rfl⟩)
        all_goals try (exfalso; omega)
        go_ret
        exact ⟨ret_bool HR.out.symm, rfl⟩
      | true =>
        rw [hp] at HC
        have HN : Hid (∀ c ∈ s.data.toList.take (k + 1), inV c = true) := by
          rw [Hid, HT.out]
          intro c hc
          rcases List.mem_append.1 hc with h | h
          · exact HA.out c h
          · rw [List.mem_singleton.1 h]; exact hp
        clear hp
        go_wp2_with (go_at_call 89; refine (HC.out _).mono ?_; rintro e w' ⟨rfl, rfl⟩)
        all_goals try (exfalso; omega)
        go_roundw
        case rel => exact ⟨k + 1, by simp, by omega, by trivial, HN.out⟩
        case measure => simp [intOf]; omega
    · obtain rfl : k = s.size := by omega
      have HR : Hid (s.data.toList.all inV = true) := by
        rw [Hid, List.all_eq_true]
        intro c hc
        exact HA.out c (by rw [← HSZ.out, List.take_length]; exact hc)
      go_wp2
      all_goals try (exfalso; omega)
      go_ret
      exact ⟨ret_bool HR.out.symm, rfl⟩
end Go.Proofs.Ytphjhlnjfcfdcaa
namespace Go.Proofs.Ytphjhlnjfcfdcaa
open Go.ChangeShapes Go.WideShapes Go.ChangeAt Go.RowKit

set_option maxRecDepth 100000 in
theorem label_any (s : ByteArray) (w : World) (hs : s.size ≤ maxLen) : Calls Try.prog 62 #[.string s] w fun e w' => e = .returned (.bool (labB s.data.toList)) ∧ w = w' := by
  have HSZ : Hid (s.data.toList.length = s.size) := by rw [Hid]; simp
  have HF := Lib.hid (fun W => fits_any s 63 W hs)
  have HL : Hid (labB s.data.toList = ((decide (1 ≤ s.size) && decide (s.size ≤ 63)) && (s.data.toList.head? != some 45 && (s.data.toList.getLast? != some 45 && s.data.toList.all inL)))) := by
    rw [Hid, labB, HSZ.out]
  cases hf : (decide (1 ≤ s.size) && decide (s.size ≤ 63)) with
  | false =>
    rw [hf] at HF HL
    clear hf hs
    generalize labB s.data.toList = r at *
    go_enter Try.func62, Try.ntmps62
    go_wp2_with (go_at_call 84; refine (HF.out _).mono ?_; rintro e w' ⟨rfl, rfl⟩)
    go_ret
    exact ⟨ret_bool (by rw [HL.out]; rfl), rfl⟩
  | true =>
    rw [hf] at HF HL
    simp only [Bool.and_eq_true, decide_eq_true_eq] at hf
    obtain ⟨h1, h2⟩ := hf
    have HA := Lib.hid (fun W => allL_any s W (by omega))
    have hlast : s.size - 1 < s.size := by omega
    have h0 : 0 < s.size := by omega
    have HH : Hid (s.data.toList.head? = some s[0]) := by
      rw [Hid, List.head?_eq_getElem?, List.getElem?_eq_getElem (by rw [HSZ.out]; exact h0)]; rfl
    have HE : Hid (s.data.toList.getLast? = some s[s.size - 1]) := by
      rw [Hid, List.getLast?_eq_getElem?, HSZ.out, List.getElem?_eq_getElem (by rw [HSZ.out]; exact hlast)]; rfl
    have e1 : ((s.size : Int) - 1) = ((s.size - 1 : Nat) : Int) := by omega
    have HL2 : Hid (labB s.data.toList = (some s[0] != some 45 && (some s[s.size - 1] != some 45 && s.data.toList.all inL))) := by
      rw [Hid, HL.out, HH.out, HE.out]; rfl
    have key : ∀ c : UInt8, (some c != some (45 : UInt8)) = decide (¬ ((c.toNat : Int) = 45)) := fun c => by
      rw [Bool.eq_iff_iff]
      simp only [bne_iff_ne, ne_eq, Option.some.injEq, decide_eq_true_eq, ← UInt8.toNat_inj]
      show ¬ c.toNat = 45 ↔ _
      omega
    have B0 := Lib.hid (key s[0])
    have B1 := Lib.hid (key s[s.size - 1])
    clear HL HH HE hs key
    generalize labB s.data.toList = r at *
    generalize s.data.toList.all inL = al at *
    go_enter Try.func62, Try.ntmps62
    go_wp2_with (first | (go_at_call 84; refine (HF.out _).mono ?_; rintro e w' ⟨rfl, rfl⟩) | (go_at_call 85; refine (HA.out _).mono ?_; rintro e w' ⟨rfl, rfl⟩))
    all_goals go_ret
    all_goals refine ⟨?_, rfl⟩
    all_goals refine ret_bool ?_
    all_goals rw [HL2.out, B0.out, B1.out]
    all_goals simp [*]
set_option maxRecDepth 100000 in
theorem var_any (w : World) : Calls Try.prog 64 #[.string ⟨#[95, 88]⟩] w fun e w' => e = .returned (.bool true) ∧ w = w' := by
  have HF : Hid (∀ W, Calls Try.prog 84 #[.string ⟨#[95, 88]⟩, .int .i64 63] W fun e w' => e = .returned (.bool true) ∧ W = w') := fun W => fits_any ⟨#[95, 88]⟩ 63 W (by decide)
  have HD : Hid (∀ W, Calls Try.prog 88 #[.int .u8 95] W fun e w' => e = .returned (.bool false) ∧ W = w') := fun W => dig_any 95 W
  have HA : Hid (∀ W, Calls Try.prog 85 #[.string ⟨#[95, 88]⟩, .func (.func 89) #[] #[]] W fun e w' => e = .returned (.bool true) ∧ W = w') := fun W => allV_any ⟨#[95, 88]⟩ W (by decide)
  go_enter Try.func64, Try.ntmps64
  go_wp2_with (first | (go_at_call 84; refine (HF.out _).mono ?_; rintro e w' ⟨rfl, rfl⟩) | (go_at_call 88; refine (HD.out _).mono ?_; rintro e w' ⟨rfl, rfl⟩) | (go_at_call 85; refine (HA.out _).mono ?_; rintro e w' ⟨rfl, rfl⟩))
  go_ret
  exact ⟨rfl, rfl⟩
end Go.Proofs.Ytphjhlnjfcfdcaa
namespace Go.Proofs.Ytphjhlnjfcfdcaa
open Go.ChangeShapes Go.WideShapes Go.ChangeAt Go.RowKit Go.Shelf
attribute [local go_sem] Oper.semAt_some
variable {w : World}

theorem box_own {A A' : World} {B0 : Nat} {row : Option Nat} {b t : Nat} {v : Value} (h : Boxed A b t v) (hg : A.grownBy A' row) (hr : ∀ r, row = some r → B0 ≤ r ∧ ∃ o : Obj, A.heap[r]? = some o ∧ o.isCells = false) : Boxed A' b t v :=
  h.kept hg (fun e => by
    obtain ⟨_, o, ho, hc⟩ := hr b e.symm
    rw [show A.heap[b]? = _ from h] at ho; cases ho; cases hc)
theorem fresh_own {w A A' : World} {B0 : Nat} {row : Option Nat} (h : Fresh w A) (hB : w.heap.size ≤ B0) (hg : A.grownBy A' row) (hr : ∀ r, row = some r → B0 ≤ r ∧ ∃ o : Obj, A.heap[r]? = some o ∧ o.isCells = false) : Fresh w A' :=
  h.grown hg (fun g e => by have := (hr g e).1; omega)
theorem name_split (l : List UInt8) (h1 : 1 ≤ l.length) (h2 : l.length ≤ 253) : nameB l = (lnsA [] l).all labB := by
  unfold nameB
  rw [decide_eq_true h1, decide_eq_true h2]; rfl
theorem clip_of_mem {l x : List UInt8} (h2 : l.length ≤ 253) (h : x ∈ lnsA [] l) : clip x = x := clip_self (by have := lnsA_mem l [] x h; simp at this; omega)
set_option maxRecDepth 100000 in
set_option maxHeartbeats 2000000 in
theorem name_yes (l : List UInt8) (w : World) (h1 : 1 ≤ l.length) (h2 : l.length ≤ 253) : Calls Try.prog 63 #[.string (tx l)] w fun e w' => e = .returned (.bool (nameB l)) ∧ Fresh w w' := by
  have hsz := tx_size l
  have HF : Hid (∀ W, Calls Try.prog 84 #[.string (tx l), .int .i64 253] W fun e w' => e = .returned (.bool true) ∧ W = w') := fun W => by
    have := fits_any (tx l) 253 W (by unfold maxLen; omega)
    rw [hsz, decide_eq_true h1, decide_eq_true h2] at this
    exact this
  have HNB := Lib.hid (name_split l h1 h2)
  have HCM := Lib.hid (fun x => @clip_of_mem l x h2)
  refine (callsIn_wide (n := 10)).1 ?_
  refine callsIn_of_wp_marks Try.func63 rfl trivial ?_ rfl
  simp only [Try.ntmps63, List.size_toArray, List.length_cons, List.length_nil, Nat.reduceAdd, Nat.reduceSub, Array.replicate_succ, Array.replicate_zero, List.push_toArray, List.append_toArray, List.nil_append, List.cons_append]
  gi_wp2_with (fail)
  refine ⟨trivial, ?_⟩
  refine (callsIn_wide.2 (HF.out _)).mono ?_
  rintro e w1 ⟨rfl, rfl⟩
  gi_wp2_with (fail)
  refine ⟨trivial, ?_⟩
  refine (callsIn_wide.2 (labels_any _ _)).mono ?_
  rintro e w1 ⟨rfl, rfl⟩
  gi_wp2
  obtain ⟨W0, hW0⟩ : ∃ W0, W0 = ((w.alloc (Obj.cells #[Value.bool false] 4)).alloc (Obj.cells #[Value.string (tx l)] 9)) := ⟨_, rfl⟩
  rw [← hW0]
  have b0 : Boxed W0 w.heap.size 4 (.bool false) := by
    rw [hW0]
    exact (Boxed.new w 4 _).alloc _
  have b1 : Boxed W0 (w.heap.size + 1) 9 (.string (tx l)) := by
    rw [hW0]
    have := Boxed.new (w.alloc (Obj.cells #[Value.bool false] 4)) 9 (.string (tx l))
    rw [World.size_alloc] at this
    exact this
  have hF0 : Fresh w W0 := by
    rw [hW0]
    exact ((Fresh.refl w).alloc _).alloc _
  have hS0 : W0.heap.size = w.heap.size + 2 := by
    rw [hW0]; simp
  clear hW0
  have hnl := lnsA_len [] l
  refine wpIn_rangeFunc_ownG rfl (by omega) (gf := 97) (lb := #[.pointer (some ⟨w.heap.size + 1, 0, none⟩)]) rfl trivial (enters_of Try.func97 (by kernel_rfl) rfl)
    (iter_stops l (w.heap.size + 1) W0 9 (by omega) (by omega) (by omega) b1.cell) (fun _ _ => trivial) (fun _ _ _ _ _ _ _ _ => trivial) (Below.refl _ _) (fun _ => rfl)
    (fun pre W => Boxed W w.heap.size 4 (.bool false) ∧ (∀ y ∈ pre, labB (clip y) = true) ∧ Fresh w W)
    (fun c pre W => c = .ret ∧ (∃ pre0 x, pre = pre0 ++ [x] ∧ labB (clip x) = false) ∧ Boxed W w.heap.size 4 (.bool false) ∧ Fresh w W)
    (fun s A B row hs hg hr => by
      obtain ⟨h1, h2, h3⟩ := hs
      exact ⟨box_own h1 hg hr, h2, fresh_own h3 hF0.size hg hr⟩)
    (fun c s A B row hs hg hr => by
      obtain ⟨h1, h2, h3, h4⟩ := hs
      exact ⟨h1, h2, box_own h3 hg hr, fresh_own h4 hF0.size hg hr⟩)
    ⟨b0, by simp, hF0⟩
    (fun x => { tmps := #[.string (tx l), undef, .pointer (some ⟨w.heap.size, 0, none⟩), .string (tx (clip x)), .string (tx l), .bool true, .bool false, .string (tx l), .func (.func 97) #[] #[.pointer (some ⟨w.heap.size + 1, 0, none⟩)], .string (tx (clip x)), undef, undef, undef], defers := [] }) ?assign ?body ?done ?stop
  case assign =>
    intro y x W K hK
    unfold encL
    gi_wp2
    exact hK
  case body =>
    rintro y pre x W ⟨hv, hgood, hF⟩ hlt
    have hcl := clip_len x
    have HLB := Lib.hid (label_any (tx (clip x)) W (by rw [tx_size]; unfold maxLen; omega))
    rw [tx_toList] at HLB
    have HB : Hid (∀ b, labB (clip x) = b → labB (clip x) = b) := fun b h => h
    have z0 := hv.cell
    have y0 := hv.frozen
    have HV := Lib.hid hv
    have HF := Lib.hid hF
    have HG := Lib.hid hgood
    clear hv hF hgood hcl
    cases hb : labB (clip x) with
    | false =>
      rw [hb] at HLB
      gi_wp2_with (fail)
      refine ⟨trivial, ?_⟩
      refine (CallsIn.inRound y (callsIn_wide.2 HLB.out)).mono ?_
      rintro e W1 ⟨rfl, rfl⟩
      gi_wp2
      exact ⟨(KeepsOthers.setCell _ _ _).from _, rfl, ⟨pre, x, rfl, hb⟩, HV.out.set _, HF.out.setCell (p := ⟨w.heap.size, 0, none⟩) (Nat.le_refl _) _⟩
    | true =>
      rw [hb] at HLB
      gi_wp2_with (fail)
      refine ⟨trivial, ?_⟩
      refine (CallsIn.inRound y (callsIn_wide.2 HLB.out)).mono ?_
      rintro e W1 ⟨rfl, rfl⟩
      gi_wp2
      refine ⟨(KeepsOthers.refl _).from _, trivial, HV.out, ?_, HF.out⟩
      intro z hz
      rcases List.mem_append.1 hz with h | h
      · exact HG.out z h
      · rw [List.mem_singleton.1 h]; exact hb
  case done =>
    rintro D xs W hD rfl ⟨hv, hgood, hF⟩ hK
    have HX : Hid (nameB l = true) := by
      rw [Hid, HNB.out, List.all_eq_true]
      intro x hx
      have := hgood x hx
      rwa [HCM.out x hx] at this
    have z0 := hv.cell
    have y0 := hv.frozen
    have A0 := Lib.hid hv
    have HF := Lib.hid hF
    have HK := Lib.hid hK
    have HD := Lib.hid hD
    clear hF hv hK hD hgood
    gi_wp2
    have K1 := (KeepsOthers.setCell W ⟨w.heap.size, 0, none⟩ (.bool true)).same D _ HK.out rfl
    have p0 := A0.out.set (.bool true)
    have hF1 := HF.out.setCell (p := ⟨w.heap.size, 0, none⟩) (Nat.le_refl _) (.bool true)
    generalize W.setCell ⟨w.heap.size, 0, none⟩ (.bool true) = W1 at *
    have g1 := grownBy_putObj' W1 D (.deferred none)
    have hr1 : ∀ r, some D = some r → W0.heap.size ≤ r ∧ ∃ o : Obj, W1.heap[r]? = some o ∧ o.isCells = false := fun r e => by cases e; exact ⟨HD.out, _, K1, rfl⟩
    have c0 := (box_own p0 g1 hr1).cell
    refine ⟨by simp, .inl ⟨_, _, rfl, run_takeDeferred K1, ?_⟩⟩
    refine ⟨.bool true, ?_, ?_⟩
    · simp [results, Try.f63, go_sem, c0]
    · rw [HX.out]
      exact ⟨rfl, fresh_own hF1 hF0.size g1 hr1⟩
  case stop =>
    rintro D c pre W hD hSp ⟨rfl, ⟨p0, x, rfl, hx⟩, hv, hF⟩ hK
    have HX : Hid (nameB l = false) := by
      rw [Hid, HNB.out, Bool.eq_false_iff]
      intro h
      have hm : x ∈ lnsA [] l := hSp.subset (by simp)
      have := List.all_eq_true.1 h x hm
      rw [HCM.out x hm] at hx
      rw [hx] at this; cases this
    have z0 := hv.cell
    have A0 := Lib.hid hv
    have HF := Lib.hid hF
    have HK := Lib.hid hK
    have HD := Lib.hid hD
    clear hx hF hv hK hD hSp
    gi_wp2
    have g1 := grownBy_putObj' W D (.deferred none)
    have hr1 : ∀ r, some D = some r → W0.heap.size ≤ r ∧ ∃ o : Obj, W.heap[r]? = some o ∧ o.isCells = false := fun r e => by cases e; exact ⟨HD.out, _, HK.out, rfl⟩
    have c0 := (box_own A0.out g1 hr1).cell
    refine ⟨by simp, .inl ⟨_, _, rfl, run_takeDeferred HK.out, ?_⟩⟩
    refine ⟨.bool false, ?_, ?_⟩
    · simp [results, Try.f63, go_sem, c0]
    · rw [HX.out]
      exact ⟨rfl, fresh_own HF.out hF0.size g1 hr1⟩
/-- Whatever text. -/
theorem name_any (l : List UInt8) (w : World) (hs : l.length ≤ maxLen) : Calls Try.prog 63 #[.string (tx l)] w fun e w' => e = .returned (.bool (nameB l)) ∧ Fresh w w' := by
  cases hf : (decide (1 ≤ l.length) && decide (l.length ≤ 253)) with
  | true =>
    simp only [Bool.and_eq_true, decide_eq_true_eq] at hf
    exact name_yes l w hf.1 hf.2
  | false =>
    have HX : Hid (nameB l = false) := by
      rw [Hid, nameB, hf]; rfl
    have HF : Hid (∀ W, Calls Try.prog 84 #[.string (tx l), .int .i64 253] W fun e w' => e = .returned (.bool false) ∧ W = w') := fun W => by
      have := fits_any (tx l) 253 W (by rw [tx_size]; exact hs)
      rw [tx_size, hf] at this
      exact this
    rw [HX.out]
    clear HX hf hs
    generalize tx l = s at *
    go_enter Try.func63, Try.ntmps63
    go_wp2_with (go_at_call 84; refine (HF.out _).mono ?_; rintro e w' ⟨rfl, rfl⟩)
    exact bodyPost_ret (v := .bool false) (by simp [results, Try.f63, go_sem]) rfl ⟨rfl, (Fresh.refl w).alloc _⟩
end Go.Proofs.Ytphjhlnjfcfdcaa
namespace Go.Proofs.Ytphjhlnjfcfdcaa
open Go.ChangeShapes Go.WideShapes Go.ChangeAt Go.RowKit

set_option maxRecDepth 100000 in
theorem ini_any (c : UInt8) (w : World) : Calls Try.prog 92 #[.int .u8 (c.toNat : Int)] w fun e w' => e = .returned (.bool (inI c)) ∧ w = w' := by
  have Hsmall := Lib.hid (fun W => small_any c W)
  have Hcap := Lib.hid (fun W => cap_any c W)
  have Hdig := Lib.hid (fun W => dig_any c W)
  have HZ : Hid (∀ (d : UInt8) (m : Nat), d.toNat = m → (c == d) = decide (c.toNat = m)) := fun d m hm => by
    subst hm
    rw [Bool.eq_iff_iff]
    simp only [beq_iff_eq, decide_eq_true_eq]
    rw [← UInt8.toNat_inj]
  have HC : Hid (inI c = (smallB c || (capB c || (digB c || (decide (c.toNat = 46) || (decide (c.toNat = 95) || (decide (c.toNat = 45) || (decide (c.toNat = 47) || (decide (c.toNat = 58) || decide (c.toNat = 64))))))))) ) := by
    rw [Hid, inI, HZ.out 46 46 rfl, HZ.out 95 95 rfl, HZ.out 45 45 rfl, HZ.out 47 47 rfl, HZ.out 58 58 rfl, HZ.out 64 64 rfl]
  clear HZ
  generalize smallB c = b0 at *
  generalize capB c = b1 at *
  generalize digB c = b2 at *
  generalize inI c = r at *
  generalize c.toNat = n at *
  by_cases hz : n = 46 ∨ n = 95 ∨ n = 45 ∨ n = 47 ∨ n = 58 ∨ n = 64
  · have HR : Hid (r = true) := by
      rw [Hid, HC.out]
      rcases hz with rfl | rfl | rfl | rfl | rfl | rfl <;> simp
    clear HC Hsmall Hcap Hdig
    rcases hz with rfl | rfl | rfl | rfl | rfl | rfl
    all_goals go_enter Try.func92, Try.ntmps92
    all_goals go_wp2
    all_goals go_ret
    all_goals exact ⟨ret_bool HR.out.symm, rfl⟩
  · have HR : Hid (r = (b0 || (b1 || b2))) := by
      rw [Hid, HC.out, decide_eq_false (show ¬ n = 46 by omega), decide_eq_false (show ¬ n = 95 by omega), decide_eq_false (show ¬ n = 45 by omega), decide_eq_false (show ¬ n = 47 by omega), decide_eq_false (show ¬ n = 58 by omega), decide_eq_false (show ¬ n = 64 by omega)]
      simp
    have e1 : ((n : Int) == 46) = false := by rw [beq_eq_false_iff_ne]; omega
    have e2 : ((n : Int) == 95) = false := by rw [beq_eq_false_iff_ne]; omega
    have e3 : ((n : Int) == 45) = false := by rw [beq_eq_false_iff_ne]; omega
    have e4 : ((n : Int) == 47) = false := by rw [beq_eq_false_iff_ne]; omega
    have e5 : ((n : Int) == 58) = false := by rw [beq_eq_false_iff_ne]; omega
    have e6 : ((n : Int) == 64) = false := by rw [beq_eq_false_iff_ne]; omega
    clear HC hz
    cases b0 <;> cases b1 <;> cases b2
    all_goals go_enter Try.func92, Try.ntmps92
    all_goals go_wp2_with (first | (go_at_call 91; refine (Hsmall.out _).mono ?_; rintro e w' ⟨rfl, rfl⟩) | (go_at_call 99; refine (Hcap.out _).mono ?_; rintro e w' ⟨rfl, rfl⟩) | (go_at_call 88; refine (Hdig.out _).mono ?_; rintro e w' ⟨rfl, rfl⟩))
    all_goals go_ret
    all_goals exact ⟨ret_bool HR.out.symm, rfl⟩
set_option maxRecDepth 100000 in
theorem allI_any (s : ByteArray) (w : World) (hs : s.size ≤ 1000) : Calls Try.prog 85 #[.string s, .func (.func 92) #[] #[]] w fun e w' => e = .returned (.bool (s.data.toList.all inI)) ∧ w = w' := by
  have HP := Lib.hid (fun c W => ini_any c W)
  have HSZ : Hid (s.data.toList.length = s.size) := by rw [Hid]; simp
  go_enter Try.func85, Try.ntmps85
  go_wp2
  go_loopw [8] (fun a8 wr => ∃ (k : Nat), a8 = .int .i64 (k : Int) ∧ k ≤ s.size ∧ w = wr ∧ Hid (∀ c ∈ s.data.toList.take k, inI c = true)) (fun a8 _ => s.size - (intOf a8).toNat)
  case atStart => exact ⟨0, rfl, Nat.zero_le _, rfl, by simp [Hid]⟩
  case round =>
    obtain ⟨k, rfl, hk, rfl, HA⟩ := hrel
    by_cases hlt : k < s.size
    · have HG : Hid (s.data.toList[k]? = some s[k]) := by rw [Hid, List.getElem?_eq_getElem (by rw [HSZ.out]; exact hlt)]; rfl
      have HT := Lib.hid (take_snoc s k hlt)
      have HC := Lib.hid (fun W => HP.out s[k] W)
      cases hp : inI s[k] with
      | false =>
        rw [hp] at HC
        have HR : Hid (s.data.toList.all inI = false) := by
          rw [Hid, Bool.eq_false_iff]
          intro h
          have := List.all_eq_true.1 h s[k] (List.mem_of_getElem? HG.out)
          rw [hp] at this; cases this
        clear hp
        go_wp2_with (go_at_call 92; refine (HC.out _).mono ?_; rintro e w' ⟨rfl, rfl⟩)
        all_goals try (exfalso; omega)
        go_ret
        exact ⟨ret_bool HR.out.symm, rfl⟩
      | true =>
        rw [hp] at HC
        have HN : Hid (∀ c ∈ s.data.toList.take (k + 1), inI c = true) := by
          rw [Hid, HT.out]
          intro c hc
          rcases List.mem_append.1 hc with h | h
          · exact HA.out c h
          · rw [List.mem_singleton.1 h]; exact hp
        clear hp
        go_wp2_with (go_at_call 92; refine (HC.out _).mono ?_; rintro e w' ⟨rfl, rfl⟩)
        all_goals try (exfalso; omega)
        go_roundw
        case rel => exact ⟨k + 1, by simp, by omega, by trivial, HN.out⟩
        case measure => simp [intOf]; omega
    · obtain rfl : k = s.size := by omega
      have HR : Hid (s.data.toList.all inI = true) := by
        rw [Hid, List.all_eq_true]
        intro c hc
        exact HA.out c (by rw [← HSZ.out, List.take_length]; exact hc)
      go_wp2
      all_goals try (exfalso; omega)
      go_ret
      exact ⟨ret_bool HR.out.symm, rfl⟩
set_option maxRecDepth 100000 in
theorem variable_any (s : ByteArray) (w : World) (hs : s.size ≤ maxLen) : Calls Try.prog 64 #[.string s] w fun e w' => e = .returned (.bool (varB s.data.toList)) ∧ w = w' := by
  have HSZ : Hid (s.data.toList.length = s.size) := by rw [Hid]; simp
  have HF := Lib.hid (fun W => fits_any s 63 W hs)
  have HL : Hid (varB s.data.toList = ((decide (1 ≤ s.size) && decide (s.size ≤ 63)) && (!digB (s.data.toList.headD 0) && s.data.toList.all inV))) := by
    rw [Hid, varB, HSZ.out]
  cases hf : (decide (1 ≤ s.size) && decide (s.size ≤ 63)) with
  | false =>
    rw [hf] at HF HL
    clear hf hs
    generalize varB s.data.toList = r at *
    go_enter Try.func64, Try.ntmps64
    go_wp2_with (go_at_call 84; refine (HF.out _).mono ?_; rintro e w' ⟨rfl, rfl⟩)
    go_ret
    exact ⟨ret_bool (by rw [HL.out]; rfl), rfl⟩
  | true =>
    rw [hf] at HF HL
    simp only [Bool.and_eq_true, decide_eq_true_eq] at hf
    obtain ⟨h1, h2⟩ := hf
    have HA := Lib.hid (fun W => allV_any s W (by omega))
    have h0 : 0 < s.size := by omega
    have HH : Hid (s.data.toList.headD 0 = s[0]) := by
      rw [Hid, List.headD_eq_head?_getD, List.head?_eq_getElem?, List.getElem?_eq_getElem (by rw [HSZ.out]; exact h0)]; rfl
    have HL2 : Hid (varB s.data.toList = (!digB (s[0]) && s.data.toList.all inV)) := by
      rw [Hid, HL.out, HH.out]; rfl
    have HD := Lib.hid (fun W => dig_any s[0] W)
    have HS := Lib.hid (fun W => small_any s[0] W)
    clear HL HH hs
    generalize varB s.data.toList = r at *
    generalize s.data.toList.all inV = al at *
    generalize digB s[0] = dg at *
    generalize smallB s[0] = sm at *
    cases al <;> cases dg <;> cases sm
    all_goals go_enter Try.func64, Try.ntmps64
    all_goals go_wp2_with (first | (go_at_call 84; refine (HF.out _).mono ?_; rintro e w' ⟨rfl, rfl⟩) | (go_at_call 85; refine (HA.out _).mono ?_; rintro e w' ⟨rfl, rfl⟩) | (go_at_call 88; refine (HD.out _).mono ?_; rintro e w' ⟨rfl, rfl⟩) | (go_at_call 91; refine (HS.out _).mono ?_; rintro e w' ⟨rfl, rfl⟩))
    all_goals go_ret
    all_goals refine ⟨?_, rfl⟩
    all_goals refine ret_bool ?_
    all_goals rw [HL2.out]
    all_goals rfl
set_option maxRecDepth 100000 in
theorem image_any (s : ByteArray) (w : World) (hs : s.size ≤ maxLen) : Calls Try.prog 74 #[.string s] w fun e w' => e = .returned (.bool (imgB s.data.toList)) ∧ w = w' := by
  have HSZ : Hid (s.data.toList.length = s.size) := by rw [Hid]; simp
  have HF := Lib.hid (fun W => fits_any s 255 W hs)
  have HL : Hid (imgB s.data.toList = ((decide (1 ≤ s.size) && decide (s.size ≤ 255)) && ((smallB (s.data.toList.headD 0) || digB (s.data.toList.headD 0)) && s.data.toList.all inI))) := by
    rw [Hid, imgB, HSZ.out]
  cases hf : (decide (1 ≤ s.size) && decide (s.size ≤ 255)) with
  | false =>
    rw [hf] at HF HL
    clear hf hs
    generalize imgB s.data.toList = r at *
    go_enter Try.func74, Try.ntmps74
    go_wp2_with (go_at_call 84; refine (HF.out _).mono ?_; rintro e w' ⟨rfl, rfl⟩)
    go_ret
    exact ⟨ret_bool (by rw [HL.out]; rfl), rfl⟩
  | true =>
    rw [hf] at HF HL
    simp only [Bool.and_eq_true, decide_eq_true_eq] at hf
    obtain ⟨h1, h2⟩ := hf
    have HA := Lib.hid (fun W => allI_any s W (by omega))
    have h0 : 0 < s.size := by omega
    have HH : Hid (s.data.toList.headD 0 = s[0]) := by
      rw [Hid, List.headD_eq_head?_getD, List.head?_eq_getElem?, List.getElem?_eq_getElem (by rw [HSZ.out]; exact h0)]; rfl
    have HL2 : Hid (imgB s.data.toList = ((smallB (s[0]) || digB (s[0])) && s.data.toList.all inI)) := by
      rw [Hid, HL.out, HH.out]; rfl
    have HD := Lib.hid (fun W => dig_any s[0] W)
    have HS := Lib.hid (fun W => small_any s[0] W)
    clear HL HH hs
    generalize imgB s.data.toList = r at *
    generalize s.data.toList.all inI = al at *
    generalize digB s[0] = dg at *
    generalize smallB s[0] = sm at *
    cases al <;> cases dg <;> cases sm
    all_goals go_enter Try.func74, Try.ntmps74
    all_goals go_wp2_with (first | (go_at_call 84; refine (HF.out _).mono ?_; rintro e w' ⟨rfl, rfl⟩) | (go_at_call 85; refine (HA.out _).mono ?_; rintro e w' ⟨rfl, rfl⟩) | (go_at_call 88; refine (HD.out _).mono ?_; rintro e w' ⟨rfl, rfl⟩) | (go_at_call 91; refine (HS.out _).mono ?_; rintro e w' ⟨rfl, rfl⟩))
    all_goals go_ret
    all_goals refine ⟨?_, rfl⟩
    all_goals refine ret_bool ?_
    all_goals rw [HL2.out]
    all_goals rfl
end Go.Proofs.Ytphjhlnjfcfdcaa
