/-
  The state of version 2 of bytes: what is taken. No call.
  The state of version 3 of bytes: what is taken. No call.
  What a Taker's move leaves as it is.
  States of version 3 in memory.
-/
import Derived.Test.YtldncgelghcjeaaGreatDoorCat05
import Derived.Test.YtldncgelghcjeaaGreatDoorCat04
import Derived.Test.YtldncgelghcjeaaGreatDoorCat02
import Derived.Deep.RegionHeld3
set_option linter.unusedSimpArgs false
set_option linter.unusedVariables false
namespace Go.Proofs.YtldncgelghcjeaaGreatDoor.K
open Go.ChangeShapes Go.WideShapes Go.ChangeAt Go.RowKit

/-! ### so many, one after another -/
section
variable {α : Type} {f : ByteArray → Int → ByteArray × Int × α}
def manyT (f : ByteArray → Int → ByteArray × Int × α) : Nat → ByteArray → Int → ByteArray × Int × List α
  | 0, s, e => (s, e, [])
  | n + 1, s, e => ((manyT f n (f s e).1 (f s e).2.1).1, (manyT f n (f s e).1 (f s e).2.1).2.1, (f s e).2.2 :: (manyT f n (f s e).1 (f s e).2.1).2.2)
/-- With an error nothing is taken. -/
def KeepsE (f : ByteArray → Int → ByteArray × Int × α) : Prop := ∀ s e, e ≠ 0 → (f s e).1 = s ∧ (f s e).2.1 = e
def LessT (f : ByteArray → Int → ByteArray × Int × α) : Prop := ∀ s e, (f s e).1.size ≤ s.size
theorem manyT_err (hf : KeepsE f) : ∀ (n : Nat) {s : ByteArray} {e : Int}, e ≠ 0 → (manyT f n s e).1 = s ∧ (manyT f n s e).2.1 = e
  | 0, _, _, _ => ⟨rfl, rfl⟩
  | n + 1, s, e, h => by
    obtain ⟨h1, h2⟩ := hf s e h
    rw [manyT, h1, h2]
    exact manyT_err hf n h
theorem manyT_less (hf : LessT f) : ∀ (n : Nat) (s : ByteArray) (e : Int), (manyT f n s e).1.size ≤ s.size
  | 0, _, _ => Nat.le_refl _
  | n + 1, s, e => by rw [manyT]; exact Nat.le_trans (manyT_less hf n _ _) (hf s e)
theorem manyT_len : ∀ (n : Nat) (s : ByteArray) (e : Int), (manyT f n s e).2.2.length = n
  | 0, _, _ => rfl
  | n + 1, s, e => by rw [manyT, List.length_cons, manyT_len n]
theorem manyT_all {P : α → Prop} (hf : ∀ s e, P (f s e).2.2) : ∀ (n : Nat) (s : ByteArray) (e : Int), ∀ x ∈ (manyT f n s e).2.2, P x
  | 0, _, _, x, hx => by simp [manyT] at hx
  | n + 1, s, e, x, hx => by
    rw [manyT] at hx
    rcases List.mem_cons.1 hx with h | h
    · rw [h]; exact hf s e
    · exact manyT_all hf n _ _ x h
def aheadM (D : List α) (q : ByteArray × Int × List α) : ByteArray × Int × List α := (q.1, q.2.1, D ++ q.2.2)
theorem manyT_step {n k : Nat} (hk : k < n) {s s1 : ByteArray} {e e1 : Int} {x : α} (h : f s e = (s1, e1, x)) (D : List α) :
    aheadM D (manyT f (n - k) s e) = aheadM (D ++ [x]) (manyT f (n - (k + 1)) s1 e1) := by
  obtain ⟨m, hm⟩ : ∃ m, n - k = m + 1 := ⟨n - k - 1, by omega⟩
  rw [hm, show n - (k + 1) = m by omega, manyT, h]
  simp [aheadM]
/-- What a list comes to. -/
def gotM (e : Int) (L : List α) : List α := if e = 0 then L else []
end
/-! ### how many -/
def upT (s : ByteArray) (e n most : Int) : ByteArray × Int × Int := if most < (takeT s e n).2.2 then ((takeT s e n).1, 18, 0) else takeT s e n
theorem upT_err {s : ByteArray} {e n most : Int} (h : e ≠ 0) (hm : 0 ≤ most) : upT s e n most = (s, e, 0) := by
  unfold upT
  rw [takeT_err h, if_neg (by show ¬ most < 0; omega)]
theorem upT_val (s : ByteArray) (e : Int) (m : Nat) (most : Int) : 0 ≤ (upT s e m most).2.2 ∧ (upT s e m most).2.2 < 256 ^ m ∧ (0 ≤ most → (upT s e m most).2.2 ≤ most) := by
  have h := take_val s e m
  unfold upT
  split
  · exact ⟨Int.le_refl _, Int.lt_of_le_of_lt h.1 h.2, fun h => h⟩
  · exact ⟨h.1, h.2, fun _ => by omega⟩
theorem upT_less (s : ByteArray) (e n most : Int) : (upT s e n most).1.size ≤ s.size := by
  have h : (takeT s e n).1.size ≤ s.size := take_len (s1 := (takeT s e n).1) (e1 := (takeT s e n).2.1) (v := (takeT s e n).2.2) rfl
  unfold upT
  split <;> exact h
/-- Where something is wrong, none. -/
theorem upT_zero {s s1 : ByteArray} {e e1 n most v : Int} (h : upT s e n most = (s1, e1, v)) (he : e1 ≠ 0) : v = 0 := by
  unfold upT at h
  split at h
  · cases h; rfl
  · unfold takeT at h
    split at h
    · cases h; rfl
    split at h
    · cases h; rfl
    split at h
    · cases h; rfl
    · cases h; exact absurd rfl he
/-! ### a container, a pod -/
def contT (s : ByteArray) (e : Int) : ByteArray × Int × C2 :=
  ((textT (textT s e).1 (textT s e).2.1).1, (textT (textT s e).1 (textT s e).2.1).2.1, ⟨(textT s e).2.2, (textT (textT s e).1 (textT s e).2.1).2.2⟩)
theorem contT_eq {s s1 s2 x1 x2 : ByteArray} {e e1 e2 : Int} (h1 : textT s e = (s1, e1, x1)) (h2 : textT s1 e1 = (s2, e2, x2)) : contT s e = (s2, e2, ⟨x1, x2⟩) := by
  simp only [contT, h1, h2]
theorem textT_len' (s : ByteArray) (e : Int) : (textT s e).1.size ≤ s.size ∧ (textT s e).2.2.size ≤ 4096 := textT_len (s1 := (textT s e).1) (e1 := (textT s e).2.1) (x := (textT s e).2.2) rfl
theorem contT_keeps : KeepsE contT := fun s e h => by
  rw [contT_eq (textT_err h) (textT_err h)]; exact ⟨rfl, rfl⟩
theorem contT_less : LessT contT := fun _ _ => Nat.le_trans (textT_len' _ _).1 (textT_len' _ _).1
theorem contT_fit (s : ByteArray) (e : Int) : (contT s e).2.2.name.size ≤ 4096 ∧ (contT s e).2.2.image.size ≤ 4096 := ⟨(textT_len' _ _).2, (textT_len' _ _).2⟩
/-- The takes of a pod, told. -/
structure Pod2T (s : ByteArray) (e : Int) (s1 s2 s3 s4 s5 s6 s7 x1 x2 x3 : ByteArray) (e1 e2 e3 e4 e5 e6 e7 v g n : Int) (L : List C2) : Prop where
  h1 : textT s e = (s1, e1, x1)
  h2 : textT s1 e1 = (s2, e2, x2)
  h3 : textT s2 e2 = (s3, e3, x3)
  h4 : takeT s3 e3 1 = (s4, e4, v)
  h5 : takeT s4 e4 2 = (s5, e5, g)
  h6 : upT s5 e5 1 16 = (s6, e6, n)
  h7 : manyT contT n.toNat s6 e6 = (s7, e7, L)
/-- A pod behind its three texts. -/
def pod2N (s : ByteArray) (e : Int) (x1 x2 x3 : ByteArray) : ByteArray × Int × P2 :=
  ((manyT contT (upT (takeT (takeT s e 1).1 (takeT s e 1).2.1 2).1 (takeT (takeT s e 1).1 (takeT s e 1).2.1 2).2.1 1 16).2.2.toNat (upT (takeT (takeT s e 1).1 (takeT s e 1).2.1 2).1 (takeT (takeT s e 1).1 (takeT s e 1).2.1 2).2.1 1 16).1 (upT (takeT (takeT s e 1).1 (takeT s e 1).2.1 2).1 (takeT (takeT s e 1).1 (takeT s e 1).2.1 2).2.1 1 16).2.1).1,
   (manyT contT (upT (takeT (takeT s e 1).1 (takeT s e 1).2.1 2).1 (takeT (takeT s e 1).1 (takeT s e 1).2.1 2).2.1 1 16).2.2.toNat (upT (takeT (takeT s e 1).1 (takeT s e 1).2.1 2).1 (takeT (takeT s e 1).1 (takeT s e 1).2.1 2).2.1 1 16).1 (upT (takeT (takeT s e 1).1 (takeT s e 1).2.1 2).1 (takeT (takeT s e 1).1 (takeT s e 1).2.1 2).2.1 1 16).2.1).2.1,
   ⟨x1, x2, x3, (takeT s e 1).2.2, (takeT (takeT s e 1).1 (takeT s e 1).2.1 2).2.2,
    (manyT contT (upT (takeT (takeT s e 1).1 (takeT s e 1).2.1 2).1 (takeT (takeT s e 1).1 (takeT s e 1).2.1 2).2.1 1 16).2.2.toNat (upT (takeT (takeT s e 1).1 (takeT s e 1).2.1 2).1 (takeT (takeT s e 1).1 (takeT s e 1).2.1 2).2.1 1 16).1 (upT (takeT (takeT s e 1).1 (takeT s e 1).2.1 2).1 (takeT (takeT s e 1).1 (takeT s e 1).2.1 2).2.1 1 16).2.1).2.2⟩)
def pod2T (s : ByteArray) (e : Int) : ByteArray × Int × P2 :=
  pod2N (textT (textT (textT s e).1 (textT s e).2.1).1 (textT (textT s e).1 (textT s e).2.1).2.1).1 (textT (textT (textT s e).1 (textT s e).2.1).1 (textT (textT s e).1 (textT s e).2.1).2.1).2.1
    (textT s e).2.2 (textT (textT s e).1 (textT s e).2.1).2.2 (textT (textT (textT s e).1 (textT s e).2.1).1 (textT (textT s e).1 (textT s e).2.1).2.1).2.2
theorem pod2T_eq {s s1 s2 s3 s4 s5 s6 s7 x1 x2 x3 : ByteArray} {e e1 e2 e3 e4 e5 e6 e7 v g n : Int} {L : List C2} (h : Pod2T s e s1 s2 s3 s4 s5 s6 s7 x1 x2 x3 e1 e2 e3 e4 e5 e6 e7 v g n L) :
    pod2T s e = (s7, e7, ⟨x1, x2, x3, v, g, L⟩) := by
  simp only [pod2T, pod2N, h.h1, h.h2, h.h3, h.h4, h.h5, h.h6, h.h7]
theorem pod2T_ex (s : ByteArray) (e : Int) : ∃ s1 s2 s3 s4 s5 s6 s7 x1 x2 x3 e1 e2 e3 e4 e5 e6 e7 v g n L, Pod2T s e s1 s2 s3 s4 s5 s6 s7 x1 x2 x3 e1 e2 e3 e4 e5 e6 e7 v g n L :=
  ⟨_, _, _, _, _, _, _, _, _, _, _, _, _, _, _, _, _, _, _, _, _, rfl, rfl, rfl, rfl, rfl, rfl, rfl⟩
section
variable {s s1 s2 s3 s4 s5 s6 s7 x1 x2 x3 : ByteArray} {e e1 e2 e3 e4 e5 e6 e7 v g n : Int} {L : List C2}
theorem Pod2T.vals (h : Pod2T s e s1 s2 s3 s4 s5 s6 s7 x1 x2 x3 e1 e2 e3 e4 e5 e6 e7 v g n L) : (0 ≤ v ∧ v ≤ 255) ∧ (0 ≤ g ∧ g ≤ 65535) ∧ 0 ≤ n ∧ n ≤ 16 := by
  have a := take_val s3 e3 1
  have b := take_val s4 e4 2
  have c := upT_val s5 e5 1 16
  rw [show ((1 : Nat) : Int) = 1 from rfl, h.h4] at a
  rw [show ((2 : Nat) : Int) = 2 from rfl, h.h5] at b
  rw [show ((1 : Nat) : Int) = 1 from rfl, h.h6] at c
  have a2 : v < 256 := a.2
  have b2 : g < 65536 := b.2
  exact ⟨⟨a.1, by omega⟩, ⟨b.1, by omega⟩, c.1, c.2.2 (by decide)⟩
theorem Pod2T.le (h : Pod2T s e s1 s2 s3 s4 s5 s6 s7 x1 x2 x3 e1 e2 e3 e4 e5 e6 e7 v g n L) :
    s1.size ≤ s.size ∧ s2.size ≤ s.size ∧ s3.size ≤ s.size ∧ s4.size ≤ s.size ∧ s5.size ≤ s.size ∧ s6.size ≤ s.size ∧ s7.size ≤ s.size := by
  have a1 := textT_len h.h1
  have a2 := textT_len h.h2
  have a3 := textT_len h.h3
  have a4 := take_len h.h4
  have a5 := take_len h.h5
  have a6 := upT_less s5 e5 1 16
  have a7 := manyT_less contT_less n.toNat s6 e6
  rw [h.h6] at a6
  rw [h.h7] at a7
  dsimp only at a6 a7
  omega
theorem Pod2T.len (h : Pod2T s e s1 s2 s3 s4 s5 s6 s7 x1 x2 x3 e1 e2 e3 e4 e5 e6 e7 v g n L) : L.length = n.toNat := by
  have := manyT_len (f := contT) n.toNat s6 e6
  rw [h.h7] at this
  exact this
theorem Pod2T.fit (h : Pod2T s e s1 s2 s3 s4 s5 s6 s7 x1 x2 x3 e1 e2 e3 e4 e5 e6 e7 v g n L) : P2.Fit 4096 ⟨x1, x2, x3, v, g, L⟩ := by
  have b := h.vals
  refine ⟨(textT_len h.h1).2, (textT_len h.h2).2, (textT_len h.h3).2, b.1.1, b.1.2, b.2.1.1, b.2.1.2, fun c hc => ?_⟩
  have := manyT_all (f := contT) (P := fun c => c.name.size ≤ 4096 ∧ c.image.size ≤ 4096) contT_fit n.toNat s6 e6 c
  rw [h.h7] at this
  exact this hc
end
theorem pod2T_keeps : KeepsE pod2T := fun s e h => by
  have hu : upT s e 1 16 = (s, e, 0) := upT_err h (by decide)
  rw [pod2T_eq (s7 := s) (e7 := e) (L := []) ⟨textT_err h, textT_err h, textT_err h, takeT_err h, takeT_err h, hu, rfl⟩]; exact ⟨rfl, rfl⟩
theorem pod2T_less : LessT pod2T := fun s e => by
  obtain ⟨s1, s2, s3, s4, s5, s6, s7, x1, x2, x3, e1, e2, e3, e4, e5, e6, e7, v, g, n, L, h⟩ := pod2T_ex s e
  rw [pod2T_eq h]
  exact h.le.2.2.2.2.2.2
theorem pod2T_fit (s : ByteArray) (e : Int) : (pod2T s e).2.2.Fit 4096 ∧ (pod2T s e).2.2.cs.length ≤ 16 := by
  obtain ⟨s1, s2, s3, s4, s5, s6, s7, x1, x2, x3, e1, e2, e3, e4, e5, e6, e7, v, g, n, L, h⟩ := pod2T_ex s e
  rw [pod2T_eq h]
  refine ⟨h.fit, ?_⟩
  have h1 := h.len
  have h2 := h.vals
  show L.length ≤ 16
  omega
/-! ### a state -/
structure Dec2T (b s1 s2 s3 : ByteArray) (e1 e2 e3 q n : Int) (L : List P2) : Prop where
  h1 : takeT b 0 8 = (s1, e1, q)
  h2 : upT s1 e1 2 1024 = (s2, e2, n)
  h3 : manyT pod2T n.toNat s2 e2 = (s3, e3, L)
def dec2E (e3 q : Int) (s3 : ByteArray) (L : List P2) : Int × Int × List P2 :=
  if endT s3 e3 ≠ 0 then (endT s3 e3, 0, []) else if chk2 L ≠ 0 then (chk2 L, 0, []) else (0, q, L)
def dec2 (b : ByteArray) : Int × Int × List P2 :=
  dec2E (manyT pod2T (upT (takeT b 0 8).1 (takeT b 0 8).2.1 2 1024).2.2.toNat (upT (takeT b 0 8).1 (takeT b 0 8).2.1 2 1024).1 (upT (takeT b 0 8).1 (takeT b 0 8).2.1 2 1024).2.1).2.1 (takeT b 0 8).2.2
    (manyT pod2T (upT (takeT b 0 8).1 (takeT b 0 8).2.1 2 1024).2.2.toNat (upT (takeT b 0 8).1 (takeT b 0 8).2.1 2 1024).1 (upT (takeT b 0 8).1 (takeT b 0 8).2.1 2 1024).2.1).1
    (manyT pod2T (upT (takeT b 0 8).1 (takeT b 0 8).2.1 2 1024).2.2.toNat (upT (takeT b 0 8).1 (takeT b 0 8).2.1 2 1024).1 (upT (takeT b 0 8).1 (takeT b 0 8).2.1 2 1024).2.1).2.2
theorem dec2T_ex (b : ByteArray) : ∃ s1 s2 s3 e1 e2 e3 q n L, Dec2T b s1 s2 s3 e1 e2 e3 q n L := ⟨_, _, _, _, _, _, _, _, _, rfl, rfl, rfl⟩
section
variable {b s1 s2 s3 : ByteArray} {e1 e2 e3 q n : Int} {L : List P2}
theorem dec2_eq (h : Dec2T b s1 s2 s3 e1 e2 e3 q n L) : dec2 b = dec2E e3 q s3 L := by
  simp only [dec2, h.h1, h.h2, h.h3]
theorem Dec2T.vals (h : Dec2T b s1 s2 s3 e1 e2 e3 q n L) : (0 ≤ q ∧ q ≤ 18446744073709551615) ∧ 0 ≤ n ∧ n ≤ 1024 := by
  have a := take_val b 0 8
  have c := upT_val s1 e1 2 1024
  rw [show ((8 : Nat) : Int) = 8 from rfl, h.h1] at a
  rw [show ((2 : Nat) : Int) = 2 from rfl, h.h2] at c
  have a2 : q < 18446744073709551616 := a.2
  exact ⟨⟨a.1, by omega⟩, c.1, c.2.2 (by decide)⟩
theorem Dec2T.le (h : Dec2T b s1 s2 s3 e1 e2 e3 q n L) : s1.size ≤ b.size ∧ s2.size ≤ b.size := by
  have a := take_len h.h1
  have c := upT_less s1 e1 2 1024
  rw [h.h2] at c
  dsimp only at c
  omega
theorem Dec2T.zero (h : Dec2T b s1 s2 s3 e1 e2 e3 q n L) (he : e2 ≠ 0) : n = 0 := upT_zero h.h2 he
theorem Dec2T.fit (h : Dec2T b s1 s2 s3 e1 e2 e3 q n L) : (∀ p ∈ L, p.Fit 4096 ∧ p.cs.length ≤ 16) ∧ L.length = n.toNat := by
  have h1 := manyT_all (f := pod2T) (P := fun p => p.Fit 4096 ∧ p.cs.length ≤ 16) pod2T_fit n.toNat s2 e2
  have h2 := manyT_len (f := pod2T) n.toNat s2 e2
  rw [h.h3] at h1 h2
  exact ⟨h1, h2⟩
end
theorem dec2_fit (b : ByteArray) : (∀ p ∈ (dec2 b).2.2, p.Fit 4096 ∧ p.cs.length ≤ 16) ∧ (dec2 b).2.2.length ≤ 1024 ∧ 0 ≤ (dec2 b).2.1 ∧ (dec2 b).2.1 ≤ 18446744073709551615 := by
  obtain ⟨s1, s2, s3, e1, e2, e3, q, n, L, hD⟩ := dec2T_ex b
  have hv := hD.vals
  have hf := hD.fit
  rw [dec2_eq hD, dec2E]
  split
  · exact ⟨by simp, by simp, by simp, by simp⟩
  split
  · exact ⟨by simp, by simp, by simp, by simp⟩
  · exact ⟨hf.1, by show L.length ≤ 1024; rw [hf.2]; omega, hv.1.1, hv.1.2⟩
end Go.Proofs.YtldncgelghcjeaaGreatDoor.K
namespace Go.Proofs.YtldncgelghcjeaaGreatDoor.K
open Go.ChangeShapes Go.WideShapes Go.ChangeAt Go.RowKit

/-! ### one take behind another -/
section
variable {α β : Type}
abbrev TakeF (α : Type) := ByteArray → Int → ByteArray × Int × α
def andT (f : TakeF α) (g : α → TakeF β) : TakeF β := fun s e => g (f s e).2.2 (f s e).1 (f s e).2.1
def retT (x : α) : TakeF α := fun s e => (s, e, x)
theorem andT_eq {f : TakeF α} {g : α → TakeF β} {s s1 : ByteArray} {e e1 : Int} {x : α} (h : f s e = (s1, e1, x)) : andT f g s e = g x s1 e1 := by
  simp only [andT, h]
theorem ret_keeps (x : α) : KeepsE (retT x) := fun _ _ _ => ⟨rfl, rfl⟩
theorem ret_less (x : α) : LessT (retT x) := fun _ _ => Nat.le_refl _
theorem and_keeps {f : TakeF α} {g : α → TakeF β} (hf : KeepsE f) (hg : ∀ x, KeepsE (g x)) : KeepsE (andT f g) := fun s e h => by
  obtain ⟨h1, h2⟩ := hf s e h
  have h3 := hg (f s e).2.2 s e h
  simp only [andT, h1, h2]
  exact h3
theorem and_less {f : TakeF α} {g : α → TakeF β} (hf : LessT f) (hg : ∀ x, LessT (g x)) : LessT (andT f g) := fun s e =>
  Nat.le_trans (hg _ _ _) (hf s e)
theorem many_keeps {f : TakeF α} (hf : KeepsE f) (n : Nat) : KeepsE (manyT f n) := fun _ _ h => manyT_err hf n h
theorem many_lessT {f : TakeF α} (hf : LessT f) (n : Nat) : LessT (manyT f n) := fun s e => manyT_less hf n s e
end
def takeF (n : Int) : TakeF Int := fun s e => takeT s e n
def upF (n most : Int) : TakeF Int := fun s e => upT s e n most
theorem text_keeps : KeepsE textT := fun s e h => by rw [textT_err h]; exact ⟨rfl, rfl⟩
theorem text_less : LessT textT := fun s e => (textT_len' s e).1
theorem take_keeps (n : Int) : KeepsE (takeF n) := fun s e h => by rw [takeF, takeT_err h]; exact ⟨rfl, rfl⟩
theorem take_less (n : Int) : LessT (takeF n) := fun s e => take_len (s1 := (takeT s e n).1) (e1 := (takeT s e n).2.1) (v := (takeT s e n).2.2) rfl
theorem up_keeps (n : Int) {most : Int} (hm : 0 ≤ most) : KeepsE (upF n most) := fun s e h => by rw [upF, upT_err h hm]; exact ⟨rfl, rfl⟩
theorem up_less (n most : Int) : LessT (upF n most) := fun s e => upT_less s e n most
theorem flag_err {s : ByteArray} {e : Int} (h : e ≠ 0) : flagT s e = (s, e, false) := by
  unfold flagT
  rw [takeT_err h, if_neg (show ¬ (1 : Int) < 0 by decide)]; rfl
theorem flag_keeps : KeepsE flagT := fun s e h => by rw [flag_err h]; exact ⟨rfl, rfl⟩
theorem flag_less : LessT flagT := fun s e => by
  have h := take_less 1 s e
  unfold flagT
  split
  · exact Nat.le_refl _
  · exact h
/-! ### a port, a variable, a container, a pod -/
def portT : TakeF (Int × Int) := andT (takeF 2) fun a => andT (takeF 1) fun b => retT (a, b)
def envT : TakeF (ByteArray × ByteArray) := andT textT fun a => andT textT fun b => retT (a, b)
theorem port_keeps : KeepsE portT := and_keeps (take_keeps 2) fun _ => and_keeps (take_keeps 1) fun _ => ret_keeps _
theorem env_keeps : KeepsE envT := and_keeps text_keeps fun _ => and_keeps text_keeps fun _ => ret_keeps _
theorem port_less : LessT portT := and_less (take_less 2) fun _ => and_less (take_less 1) fun _ => ret_less _
theorem env_less : LessT envT := and_less text_less fun _ => and_less text_less fun _ => ret_less _
def ct3T : TakeF Ct :=
  andT textT fun name => andT textT fun image => andT (upF 1 16) fun n1 => andT (manyT textT n1.toNat) fun cmd => andT (upF 1 16) fun n2 => andT (manyT portT n2.toNat) fun ports =>
  andT (takeF 4) fun cpu => andT (takeF 4) fun mem => andT (upF 1 16) fun n3 => andT (manyT envT n3.toNat) fun env => retT ⟨name, image, cmd, ports, cpu, mem, env⟩
theorem ct3_keeps : KeepsE ct3T :=
  and_keeps text_keeps fun _ => and_keeps text_keeps fun _ => and_keeps (up_keeps 1 (by decide)) fun _ => and_keeps (many_keeps text_keeps _) fun _ => and_keeps (up_keeps 1 (by decide)) fun _ => and_keeps (many_keeps port_keeps _) fun _ =>
  and_keeps (take_keeps 4) fun _ => and_keeps (take_keeps 4) fun _ => and_keeps (up_keeps 1 (by decide)) fun _ => and_keeps (many_keeps env_keeps _) fun _ => ret_keeps _
theorem ct3_less : LessT ct3T :=
  and_less text_less fun _ => and_less text_less fun _ => and_less (up_less 1 16) fun _ => and_less (many_lessT text_less _) fun _ => and_less (up_less 1 16) fun _ => and_less (many_lessT port_less _) fun _ =>
  and_less (take_less 4) fun _ => and_less (take_less 4) fun _ => and_less (up_less 1 16) fun _ => and_less (many_lessT env_less _) fun _ => ret_less _
/-- The takes of a container, told. -/
structure Ct3T (s : ByteArray) (e : Int) (s1 s2 s3 s4 s5 s6 s7 s8 s9 t : ByteArray) (e1 e2 e3 e4 e5 e6 e7 e8 e9 f : Int) (n1 n2 n3 : Int) (c : Ct) : Prop where
  h1 : textT s e = (s1, e1, c.name)
  h2 : textT s1 e1 = (s2, e2, c.image)
  h3 : upT s2 e2 1 16 = (s3, e3, n1)
  h4 : manyT textT n1.toNat s3 e3 = (s4, e4, c.cmd)
  h5 : upT s4 e4 1 16 = (s5, e5, n2)
  h6 : manyT portT n2.toNat s5 e5 = (s6, e6, c.ports)
  h7 : takeT s6 e6 4 = (s7, e7, c.cpu)
  h8 : takeT s7 e7 4 = (s8, e8, c.mem)
  h9 : upT s8 e8 1 16 = (s9, e9, n3)
  h10 : manyT envT n3.toNat s9 e9 = (t, f, c.env)
theorem ct3T_eq {s : ByteArray} {e : Int} {s1 s2 s3 s4 s5 s6 s7 s8 s9 t : ByteArray} {e1 e2 e3 e4 e5 e6 e7 e8 e9 f n1 n2 n3 : Int} {c : Ct} (h : Ct3T s e s1 s2 s3 s4 s5 s6 s7 s8 s9 t e1 e2 e3 e4 e5 e6 e7 e8 e9 f n1 n2 n3 c) : ct3T s e = (t, f, c) := by
  unfold ct3T
  rw [andT_eq h.h1, andT_eq h.h2, andT_eq (f := upF 1 16) h.h3, andT_eq h.h4, andT_eq (f := upF 1 16) h.h5, andT_eq h.h6, andT_eq (f := takeF 4) h.h7, andT_eq (f := takeF 4) h.h8, andT_eq (f := upF 1 16) h.h9, andT_eq h.h10]
  rfl
theorem ct3T_ex (s : ByteArray) (e : Int) : ∃ s1 s2 s3 s4 s5 s6 s7 s8 s9 t e1 e2 e3 e4 e5 e6 e7 e8 e9 f n1 n2 n3 c, Ct3T s e s1 s2 s3 s4 s5 s6 s7 s8 s9 t e1 e2 e3 e4 e5 e6 e7 e8 e9 f n1 n2 n3 c := by
  obtain ⟨s1, e1, x1, h1⟩ : ∃ s1 e1 x, textT s e = (s1, e1, x) := ⟨_, _, _, rfl⟩
  obtain ⟨s2, e2, x2, h2⟩ : ∃ s2 e2 x, textT s1 e1 = (s2, e2, x) := ⟨_, _, _, rfl⟩
  obtain ⟨s3, e3, n1, h3⟩ : ∃ s3 e3 x, upT s2 e2 1 16 = (s3, e3, x) := ⟨_, _, _, rfl⟩
  obtain ⟨s4, e4, x4, h4⟩ : ∃ s4 e4 x, manyT textT n1.toNat s3 e3 = (s4, e4, x) := ⟨_, _, _, rfl⟩
  obtain ⟨s5, e5, n2, h5⟩ : ∃ s5 e5 x, upT s4 e4 1 16 = (s5, e5, x) := ⟨_, _, _, rfl⟩
  obtain ⟨s6, e6, x6, h6⟩ : ∃ s6 e6 x, manyT portT n2.toNat s5 e5 = (s6, e6, x) := ⟨_, _, _, rfl⟩
  obtain ⟨s7, e7, x7, h7⟩ : ∃ s7 e7 x, takeT s6 e6 4 = (s7, e7, x) := ⟨_, _, _, rfl⟩
  obtain ⟨s8, e8, x8, h8⟩ : ∃ s8 e8 x, takeT s7 e7 4 = (s8, e8, x) := ⟨_, _, _, rfl⟩
  obtain ⟨s9, e9, n3, h9⟩ : ∃ s9 e9 x, upT s8 e8 1 16 = (s9, e9, x) := ⟨_, _, _, rfl⟩
  obtain ⟨t, f, x10, h10⟩ : ∃ t f x, manyT envT n3.toNat s9 e9 = (t, f, x) := ⟨_, _, _, rfl⟩
  exact ⟨s1, s2, s3, s4, s5, s6, s7, s8, s9, t, e1, e2, e3, e4, e5, e6, e7, e8, e9, f, n1, n2, n3, ⟨x1, x2, x4, x6, x7, x8, x10⟩, h1, h2, h3, h4, h5, h6, h7, h8, h9, h10⟩
theorem up_bounds (s : ByteArray) (e : Int) : 0 ≤ (upT s e 1 16).2.2 ∧ (upT s e 1 16).2.2 ≤ 16 := by
  have c := upT_val s e 1 16
  rw [show ((1 : Nat) : Int) = 1 from rfl] at c
  exact ⟨c.1, c.2.2 (by decide)⟩
/-- What is taken is not great. -/
structure CtFit (c : Ct) : Prop where
  name : c.name.size ≤ 4096
  image : c.image.size ≤ 4096
  lc : c.cmd.length ≤ 16
  lp : c.ports.length ≤ 16
  le : c.env.length ≤ 16
  cpu0 : 0 ≤ c.cpu
  cpu1 : c.cpu < 4294967296
  mem0 : 0 ≤ c.mem
  mem1 : c.mem < 4294967296
  cmd : ∀ s ∈ c.cmd, s.size ≤ 4096
  ports : ∀ p ∈ c.ports, (0 ≤ p.1 ∧ p.1 < 65536) ∧ 0 ≤ p.2 ∧ p.2 < 256
  env : ∀ v ∈ c.env, v.1.size ≤ 4096 ∧ v.2.size ≤ 4096
theorem take_bounds (s : ByteArray) (e : Int) (n : Nat) : 0 ≤ (takeT s e n).2.2 ∧ (takeT s e n).2.2 < 256 ^ n := take_val s e n
theorem portT_fit (s : ByteArray) (e : Int) : (0 ≤ (portT s e).2.2.1 ∧ (portT s e).2.2.1 < 65536) ∧ 0 ≤ (portT s e).2.2.2 ∧ (portT s e).2.2.2 < 256 :=
  ⟨take_bounds s e 2, take_bounds (takeT s e 2).1 (takeT s e 2).2.1 1⟩
theorem envT_fit (s : ByteArray) (e : Int) : (envT s e).2.2.1.size ≤ 4096 ∧ (envT s e).2.2.2.size ≤ 4096 :=
  ⟨(textT_len' s e).2, (textT_len' _ _).2⟩
section
variable {s : ByteArray} {e : Int} {s1 s2 s3 s4 s5 s6 s7 s8 s9 t : ByteArray} {e1 e2 e3 e4 e5 e6 e7 e8 e9 f n1 n2 n3 : Int} {c : Ct}
theorem Ct3T.nums (h : Ct3T s e s1 s2 s3 s4 s5 s6 s7 s8 s9 t e1 e2 e3 e4 e5 e6 e7 e8 e9 f n1 n2 n3 c) : (0 ≤ n1 ∧ n1 ≤ 16) ∧ (0 ≤ n2 ∧ n2 ≤ 16) ∧ 0 ≤ n3 ∧ n3 ≤ 16 := by
  have a := up_bounds s2 e2
  have b := up_bounds s4 e4
  have d := up_bounds s8 e8
  rw [h.h3] at a
  rw [h.h5] at b
  rw [h.h9] at d
  exact ⟨a, b, d⟩
theorem Ct3T.lens (h : Ct3T s e s1 s2 s3 s4 s5 s6 s7 s8 s9 t e1 e2 e3 e4 e5 e6 e7 e8 e9 f n1 n2 n3 c) : c.cmd.length = n1.toNat ∧ c.ports.length = n2.toNat ∧ c.env.length = n3.toNat := by
  have a := manyT_len (f := textT) n1.toNat s3 e3
  have b := manyT_len (f := portT) n2.toNat s5 e5
  have d := manyT_len (f := envT) n3.toNat s9 e9
  rw [h.h4] at a
  rw [h.h6] at b
  rw [h.h10] at d
  exact ⟨a, b, d⟩
theorem Ct3T.le (h : Ct3T s e s1 s2 s3 s4 s5 s6 s7 s8 s9 t e1 e2 e3 e4 e5 e6 e7 e8 e9 f n1 n2 n3 c) :
    s1.size ≤ s.size ∧ s2.size ≤ s.size ∧ s3.size ≤ s.size ∧ s4.size ≤ s.size ∧ s5.size ≤ s.size ∧ s6.size ≤ s.size ∧ s7.size ≤ s.size ∧ s8.size ≤ s.size ∧ s9.size ≤ s.size ∧ t.size ≤ s.size := by
  have a1 := textT_len h.h1
  have a2 := textT_len h.h2
  have a3 := upT_less s2 e2 1 16
  have a4 := manyT_less text_less n1.toNat s3 e3
  have a5 := upT_less s4 e4 1 16
  have a6 := manyT_less port_less n2.toNat s5 e5
  have a7 := take_len h.h7
  have a8 := take_len h.h8
  have a9 := upT_less s8 e8 1 16
  have a10 := manyT_less env_less n3.toNat s9 e9
  rw [h.h3] at a3
  rw [h.h4] at a4
  rw [h.h5] at a5
  rw [h.h6] at a6
  rw [h.h9] at a9
  rw [h.h10] at a10
  dsimp only at a3 a4 a5 a6 a9 a10
  omega
theorem Ct3T.fit (h : Ct3T s e s1 s2 s3 s4 s5 s6 s7 s8 s9 t e1 e2 e3 e4 e5 e6 e7 e8 e9 f n1 n2 n3 c) : CtFit c := by
  have a := h.nums
  have b := h.lens
  have c1 := take_bounds s6 e6 4
  have c2 := take_bounds s7 e7 4
  rw [show ((4 : Nat) : Int) = 4 from rfl, h.h7] at c1
  rw [show ((4 : Nat) : Int) = 4 from rfl, h.h8] at c2
  have m1 := manyT_all (f := textT) (P := fun x => x.size ≤ 4096) (fun s e => (textT_len' s e).2) n1.toNat s3 e3
  have m2 := manyT_all (f := portT) (P := fun p => (0 ≤ p.1 ∧ p.1 < 65536) ∧ 0 ≤ p.2 ∧ p.2 < 256) portT_fit n2.toNat s5 e5
  have m3 := manyT_all (f := envT) (P := fun v => v.1.size ≤ 4096 ∧ v.2.size ≤ 4096) envT_fit n3.toNat s9 e9
  rw [h.h4] at m1
  rw [h.h6] at m2
  rw [h.h10] at m3
  exact ⟨(textT_len h.h1).2, (textT_len h.h2).2, by omega, by omega, by omega, c1.1, c1.2, c2.1, c2.2, m1, m2, m3⟩
end
/-- A pod and its file. -/
def pod3T : TakeF P3 :=
  andT textT fun file => andT textT fun name => andT textT fun ns => andT (takeF 1) fun r => andT (takeF 2) fun g => andT flagT fun host => andT (upF 1 16) fun n => andT (manyT ct3T n.toNat) fun cs => retT ⟨file, ⟨name, ns, r, g, host, cs⟩⟩
theorem pod3_keeps : KeepsE pod3T :=
  and_keeps text_keeps fun _ => and_keeps text_keeps fun _ => and_keeps text_keeps fun _ => and_keeps (take_keeps 1) fun _ => and_keeps (take_keeps 2) fun _ => and_keeps flag_keeps fun _ => and_keeps (up_keeps 1 (by decide)) fun _ => and_keeps (many_keeps ct3_keeps _) fun _ => ret_keeps _
theorem pod3_less : LessT pod3T :=
  and_less text_less fun _ => and_less text_less fun _ => and_less text_less fun _ => and_less (take_less 1) fun _ => and_less (take_less 2) fun _ => and_less flag_less fun _ => and_less (up_less 1 16) fun _ => and_less (many_lessT ct3_less _) fun _ => ret_less _
structure Pod3T (s : ByteArray) (e : Int) (s1 s2 s3 s4 s5 s6 s7 t : ByteArray) (e1 e2 e3 e4 e5 e6 e7 f n : Int) (p : P3) : Prop where
  h1 : textT s e = (s1, e1, p.file)
  h2 : textT s1 e1 = (s2, e2, p.pd.name)
  h3 : textT s2 e2 = (s3, e3, p.pd.ns)
  h4 : takeT s3 e3 1 = (s4, e4, p.pd.restart)
  h5 : takeT s4 e4 2 = (s5, e5, p.pd.grace)
  h6 : flagT s5 e5 = (s6, e6, p.pd.host)
  h7 : upT s6 e6 1 16 = (s7, e7, n)
  h8 : manyT ct3T n.toNat s7 e7 = (t, f, p.pd.cs)
theorem pod3T_eq {s : ByteArray} {e : Int} {s1 s2 s3 s4 s5 s6 s7 t : ByteArray} {e1 e2 e3 e4 e5 e6 e7 f n : Int} {p : P3} (h : Pod3T s e s1 s2 s3 s4 s5 s6 s7 t e1 e2 e3 e4 e5 e6 e7 f n p) : pod3T s e = (t, f, p) := by
  unfold pod3T
  rw [andT_eq h.h1, andT_eq h.h2, andT_eq h.h3, andT_eq (f := takeF 1) h.h4, andT_eq (f := takeF 2) h.h5, andT_eq h.h6, andT_eq (f := upF 1 16) h.h7, andT_eq h.h8]
  rfl
theorem pod3T_ex (s : ByteArray) (e : Int) : ∃ s1 s2 s3 s4 s5 s6 s7 t e1 e2 e3 e4 e5 e6 e7 f n p, Pod3T s e s1 s2 s3 s4 s5 s6 s7 t e1 e2 e3 e4 e5 e6 e7 f n p := by
  obtain ⟨s1, e1, x1, h1⟩ : ∃ s1 e1 x, textT s e = (s1, e1, x) := ⟨_, _, _, rfl⟩
  obtain ⟨s2, e2, x2, h2⟩ : ∃ s2 e2 x, textT s1 e1 = (s2, e2, x) := ⟨_, _, _, rfl⟩
  obtain ⟨s3, e3, x3, h3⟩ : ∃ s3 e3 x, textT s2 e2 = (s3, e3, x) := ⟨_, _, _, rfl⟩
  obtain ⟨s4, e4, x4, h4⟩ : ∃ s4 e4 x, takeT s3 e3 1 = (s4, e4, x) := ⟨_, _, _, rfl⟩
  obtain ⟨s5, e5, x5, h5⟩ : ∃ s5 e5 x, takeT s4 e4 2 = (s5, e5, x) := ⟨_, _, _, rfl⟩
  obtain ⟨s6, e6, x6, h6⟩ : ∃ s6 e6 x, flagT s5 e5 = (s6, e6, x) := ⟨_, _, _, rfl⟩
  obtain ⟨s7, e7, n, h7⟩ : ∃ s7 e7 x, upT s6 e6 1 16 = (s7, e7, x) := ⟨_, _, _, rfl⟩
  obtain ⟨t, f, x8, h8⟩ : ∃ t f x, manyT ct3T n.toNat s7 e7 = (t, f, x) := ⟨_, _, _, rfl⟩
  exact ⟨s1, s2, s3, s4, s5, s6, s7, t, e1, e2, e3, e4, e5, e6, e7, f, n, ⟨x1, ⟨x2, x3, x4, x5, x6, x8⟩⟩, h1, h2, h3, h4, h5, h6, h7, h8⟩
structure P3Fit (p : P3) : Prop where
  file : p.file.size ≤ 4096
  name : p.pd.name.size ≤ 4096
  ns : p.pd.ns.size ≤ 4096
  r0 : 0 ≤ p.pd.restart
  r1 : p.pd.restart < 256
  g0 : 0 ≤ p.pd.grace
  g1 : p.pd.grace < 65536
  len : p.pd.cs.length ≤ 16
  cs : ∀ c ∈ p.pd.cs, CtFit c
theorem ct3T_fit (s : ByteArray) (e : Int) : CtFit (ct3T s e).2.2 := by
  obtain ⟨s1, s2, s3, s4, s5, s6, s7, s8, s9, t, e1, e2, e3, e4, e5, e6, e7, e8, e9, f, n1, n2, n3, c, h⟩ := ct3T_ex s e
  rw [ct3T_eq h]
  exact h.fit
section
variable {s : ByteArray} {e : Int} {s1 s2 s3 s4 s5 s6 s7 t : ByteArray} {e1 e2 e3 e4 e5 e6 e7 f n : Int} {p : P3}
theorem flag_lenT {s s1 : ByteArray} {e e1 : Int} {b : Bool} (h : flagT s e = (s1, e1, b)) : s1.size ≤ s.size := by
  have := flag_less s e
  rw [h] at this
  exact this
theorem Pod3T.num (h : Pod3T s e s1 s2 s3 s4 s5 s6 s7 t e1 e2 e3 e4 e5 e6 e7 f n p) : 0 ≤ n ∧ n ≤ 16 := by
  have a := up_bounds s6 e6
  rw [h.h7] at a
  exact a
theorem Pod3T.len (h : Pod3T s e s1 s2 s3 s4 s5 s6 s7 t e1 e2 e3 e4 e5 e6 e7 f n p) : p.pd.cs.length = n.toNat := by
  have a := manyT_len (f := ct3T) n.toNat s7 e7
  rw [h.h8] at a
  exact a
theorem Pod3T.le (h : Pod3T s e s1 s2 s3 s4 s5 s6 s7 t e1 e2 e3 e4 e5 e6 e7 f n p) :
    s1.size ≤ s.size ∧ s2.size ≤ s.size ∧ s3.size ≤ s.size ∧ s4.size ≤ s.size ∧ s5.size ≤ s.size ∧ s6.size ≤ s.size ∧ s7.size ≤ s.size ∧ t.size ≤ s.size := by
  have a1 := textT_len h.h1
  have a2 := textT_len h.h2
  have a3 := textT_len h.h3
  have a4 := take_len h.h4
  have a5 := take_len h.h5
  have a6 := flag_lenT h.h6
  have a7 := upT_less s6 e6 1 16
  have a8 := manyT_less ct3_less n.toNat s7 e7
  rw [h.h7] at a7
  rw [h.h8] at a8
  dsimp only at a7 a8
  omega
theorem Pod3T.fit (h : Pod3T s e s1 s2 s3 s4 s5 s6 s7 t e1 e2 e3 e4 e5 e6 e7 f n p) : P3Fit p := by
  have a := h.num
  have b := h.len
  have c1 := take_bounds s3 e3 1
  have c2 := take_bounds s4 e4 2
  rw [show ((1 : Nat) : Int) = 1 from rfl, h.h4] at c1
  rw [show ((2 : Nat) : Int) = 2 from rfl, h.h5] at c2
  have m1 := manyT_all (f := ct3T) (P := CtFit) ct3T_fit n.toNat s7 e7
  rw [h.h8] at m1
  exact ⟨(textT_len h.h1).2, (textT_len h.h2).2, (textT_len h.h3).2, c1.1, c1.2, c2.1, c2.2, by omega, m1⟩
end
theorem pod3T_fit (s : ByteArray) (e : Int) : P3Fit (pod3T s e).2.2 := by
  obtain ⟨s1, s2, s3, s4, s5, s6, s7, t, e1, e2, e3, e4, e5, e6, e7, f, n, p, h⟩ := pod3T_ex s e
  rw [pod3T_eq h]
  exact h.fit
/-! ### a state -/
structure Dec3T (b s1 s2 s3 : ByteArray) (e1 e2 e3 q n : Int) (L : List P3) : Prop where
  h1 : takeT b 0 8 = (s1, e1, q)
  h2 : upT s1 e1 2 1024 = (s2, e2, n)
  h3 : manyT pod3T n.toNat s2 e2 = (s3, e3, L)
def dec3E (e3 q : Int) (s3 : ByteArray) (L : List P3) : Int × Int × List P3 :=
  if endT s3 e3 ≠ 0 then (endT s3 e3, 0, []) else if chk3 L ≠ 0 then (chk3 L, 0, []) else (0, q, L)
def dec3 (b : ByteArray) : Int × Int × List P3 :=
  dec3E (manyT pod3T (upT (takeT b 0 8).1 (takeT b 0 8).2.1 2 1024).2.2.toNat (upT (takeT b 0 8).1 (takeT b 0 8).2.1 2 1024).1 (upT (takeT b 0 8).1 (takeT b 0 8).2.1 2 1024).2.1).2.1 (takeT b 0 8).2.2
    (manyT pod3T (upT (takeT b 0 8).1 (takeT b 0 8).2.1 2 1024).2.2.toNat (upT (takeT b 0 8).1 (takeT b 0 8).2.1 2 1024).1 (upT (takeT b 0 8).1 (takeT b 0 8).2.1 2 1024).2.1).1
    (manyT pod3T (upT (takeT b 0 8).1 (takeT b 0 8).2.1 2 1024).2.2.toNat (upT (takeT b 0 8).1 (takeT b 0 8).2.1 2 1024).1 (upT (takeT b 0 8).1 (takeT b 0 8).2.1 2 1024).2.1).2.2
theorem dec3T_ex (b : ByteArray) : ∃ s1 s2 s3 e1 e2 e3 q n L, Dec3T b s1 s2 s3 e1 e2 e3 q n L := ⟨_, _, _, _, _, _, _, _, _, rfl, rfl, rfl⟩
section
variable {b s1 s2 s3 : ByteArray} {e1 e2 e3 q n : Int} {L : List P3}
theorem dec3_eq (h : Dec3T b s1 s2 s3 e1 e2 e3 q n L) : dec3 b = dec3E e3 q s3 L := by
  simp only [dec3, h.h1, h.h2, h.h3]
theorem Dec3T.vals (h : Dec3T b s1 s2 s3 e1 e2 e3 q n L) : (0 ≤ q ∧ q ≤ 18446744073709551615) ∧ 0 ≤ n ∧ n ≤ 1024 := by
  have a := take_val b 0 8
  have c := upT_val s1 e1 2 1024
  rw [show ((8 : Nat) : Int) = 8 from rfl, h.h1] at a
  rw [show ((2 : Nat) : Int) = 2 from rfl, h.h2] at c
  have a2 : q < 18446744073709551616 := a.2
  exact ⟨⟨a.1, by omega⟩, c.1, c.2.2 (by decide)⟩
theorem Dec3T.le (h : Dec3T b s1 s2 s3 e1 e2 e3 q n L) : s1.size ≤ b.size ∧ s2.size ≤ b.size := by
  have a := take_len h.h1
  have c := upT_less s1 e1 2 1024
  rw [h.h2] at c
  dsimp only at c
  omega
theorem Dec3T.zero (h : Dec3T b s1 s2 s3 e1 e2 e3 q n L) (he : e2 ≠ 0) : n = 0 := upT_zero h.h2 he
theorem Dec3T.fit (h : Dec3T b s1 s2 s3 e1 e2 e3 q n L) : (∀ p ∈ L, P3Fit p) ∧ L.length = n.toNat := by
  have h1 := manyT_all (f := pod3T) (P := P3Fit) pod3T_fit n.toNat s2 e2
  have h2 := manyT_len (f := pod3T) n.toNat s2 e2
  rw [h.h3] at h1 h2
  exact ⟨h1, h2⟩
end
theorem dec3_fit (b : ByteArray) : (∀ p ∈ (dec3 b).2.2, P3Fit p) ∧ (dec3 b).2.2.length ≤ 1024 ∧ 0 ≤ (dec3 b).2.1 ∧ (dec3 b).2.1 ≤ 18446744073709551615 := by
  obtain ⟨s1, s2, s3, e1, e2, e3, q, n, L, hD⟩ := dec3T_ex b
  have hv := hD.vals
  have hf := hD.fit
  rw [dec3_eq hD, dec3E]
  split
  · exact ⟨by simp, by simp, by simp, by simp⟩
  split
  · exact ⟨by simp, by simp, by simp, by simp⟩
  · exact ⟨hf.1, by show L.length ≤ 1024; rw [hf.2]; omega, hv.1.1, hv.1.2⟩
theorem dec3_bad (b : ByteArray) (h : (dec3 b).1 ≠ 0) : (dec3 b).2.1 = 0 ∧ (dec3 b).2.2 = [] := by
  obtain ⟨s1, s2, s3, e1, e2, e3, q, n, L, hD⟩ := dec3T_ex b
  rw [dec3_eq hD, dec3E] at h ⊢
  split
  · exact ⟨rfl, rfl⟩
  split
  · exact ⟨rfl, rfl⟩
  · rename_i h1 h2
    rw [if_neg h1, if_neg h2] at h
    exact absurd rfl h
end Go.Proofs.YtldncgelghcjeaaGreatDoor.K
namespace Go.Proofs.YtldncgelghcjeaaGreatDoor.K
open Go.ChangeShapes Go.WideShapes Go.ChangeAt Go.RowKit
set_option maxRecDepth 100000

theorem Moved.below {w w0 w1 : World} {s : ByteArray} {e : Int} {b : Nat} (hf : Fresh w w0) (h : Moved b w0 w1 s e) (hb : w.heap.size ≤ b) : Fresh w w1 :=
  ⟨h.os.trans hf.os, h.tape.trans hf.tape, h.output.trans hf.output, Nat.le_trans hf.size h.size, fun k hk => (h.block k (Nat.lt_of_lt_of_le hk hf.size) (by omega)).trans (hf.block k hk)⟩
theorem Moved.grows {b : Nat} {w w' : World} {s : ByteArray} {e : Int} (h : Moved b w w' s e) : w.grownBy w' (some b) :=
  ⟨h.os, h.tape, h.output, h.size, fun k hk hne => h.block k hk (fun e => hne (by rw [e]))⟩
theorem own_moved {W W' : World} {B e k n b : Nat} {v : Value} {xs : List Value} {s : ByteArray} {x : Int} (h : W.ownsRow B e k v n xs) (m : Moved b W W' s x) (hb : b < B) : W'.ownsRow B e k v n xs := by
  refine World.ownsRow.kept h m.grows ?_
  rcases h' : v.ownBlock with _ | g
  · exact .inl rfl
  · refine .inr fun e2 => ?_
    have := (World.ownsRow.lt h g h').1
    have e3 : g = b := by simpa using e2
    omega
theorem Moved.grown {b : Nat} {w w1 w2 : World} {s : ByteArray} {e : Int} (h : Moved b w w1 s e) {row : Option Nat} (hg : w1.grownBy w2 row) (hr : ∀ g, row = some g → w.heap.size ≤ g) (hb : b < w.heap.size) : Moved b w w2 s e :=
  ⟨(hg.block b (atT_lt h.isT) (fun e => by have := hr b e.symm; omega)).trans h.isT, hg.os.trans h.os, hg.tape.trans h.tape, hg.output.trans h.output, Nat.le_trans h.size hg.size,
    fun k hk hn => (hg.block k (Nat.lt_of_lt_of_le hk h.size) (fun e => by have := hr k e.symm; omega)).trans (h.block k hk hn)⟩
theorem Moved.at {b : Nat} {w w' : World} {s : ByteArray} {e : Int} (m : Moved b w w' s e) {g : Nat} {o : Obj} (h : w.heap[g]? = some o) (hne : g ≠ b) : w'.heap[g]? = some o :=
  (m.block g (lt_of_at h) hne).trans h
theorem cell_set_ne {W : World} {g i : Nat} {x u : Value} {z j : Nat} (h : W.cell? ⟨g, i, none⟩ = some x) (hne : g ≠ z) : (W.setCell ⟨z, j, none⟩ u).cell? ⟨g, i, none⟩ = some x := by
  rw [World.cell?_setCell_other (a := ⟨z, j, none⟩) (b := ⟨g, i, none⟩) (h := fun e => hne (congrArg Addr.block e).symm)]
  exact h
theorem Moved.off {b : Nat} {w w1 : World} {s : ByteArray} {e : Int} (h : Moved b w w1 s e) {z : Nat} (hz : w.heap.size ≤ z) (hb : b < w.heap.size) (i : Nat) (u : Value) : Moved b w (w1.setCell ⟨z, i, none⟩ u) s e := by
  refine ⟨?_, h.os, h.tape, h.output, by simpa [World.setCell] using h.size, fun k hk hn => ?_⟩
  · exact at_off h.isT (by show b ≠ z; omega) _
  · rw [Below.heap_setCell _ _ _ _ (by show k ≠ z; omega)]; exact h.block k hk hn
theorem _root_.Go.Proofs.YtldncgelghcjeaaGreatDoor.RowAt.keep {w w' : World} {a : Option Addr} {cs : List Value} (h : RowAt w a cs) (hb : ∀ ad : Addr, a = some ad → w'.heap[ad.block]? = w.heap[ad.block]?) : RowAt w' a cs := by
  rcases h with h | ⟨g, o, e, h⟩
  · exact .inl h
  · refine .inr ⟨g, o, e, fun j x hj => ?_⟩
    have h1 := h j x hj
    have h2 := hb _ e
    dsimp only at h2
    simp only [World.cell?, h2] at h1 ⊢
    exact h1
/-- Blocks that are neither a taker's, nor block z, nor of this type, stay. -/
def Fr (z : Nat) (T : TypeId) (w w' : World) : Prop := ∀ (k : Nat) (cs : Array Value) (t : TypeId) (fz : Nat × Nat), w.heap[k]? = some (Obj.cells cs t fz) → t ≠ 138 → k ≠ z → t ≠ T → w'.heap[k]? = some (Obj.cells cs t fz)
theorem Fr.refl (z : Nat) (T : TypeId) (w : World) : Fr z T w w := fun _ _ _ _ h _ _ _ => h
theorem Fr.trans {z : Nat} {T : TypeId} {a b c : World} (h : Fr z T a b) (k : Fr z T b c) : Fr z T a c := fun i cs t fz hi n0 n1 n2 => k i cs t fz (h i cs t fz hi n0 n1 n2) n0 n1 n2
theorem Fr.of {z : Nat} {T : TypeId} {w w' : World} (h : Fresh w w') : Fr z T w w' := fun _ _ _ _ hk _ _ _ => h.at hk
theorem Fr.moved {z : Nat} {T : TypeId} {b : Nat} {w w' : World} {s s0 : ByteArray} {e e0 : Int} (h : Moved b w w' s e) (h0 : atT w b s0 e0) : Fr z T w w' := fun k cs t fz hk n0 _ _ => h.at hk (fun e => by
  subst e
  unfold atT at h0
  rw [h0] at hk
  cases hk
  exact n0 rfl)
theorem own_fr {z : Nat} {S T : TypeId} {W W' : World} {B e k n : Nat} {v : Value} {xs : List Value} {cz : Array Value} (h : W.ownsRow B e k v n xs) (f : Fr z T W W') (hz : W.heap[z]? = some (.cells cz S)) (h0 : e ≠ 138) (h1 : e ≠ S) (h2 : e ≠ T) : W'.ownsRow B e k v n xs := by
  refine ⟨h.1, ?_⟩
  rcases h.2 with hn | ⟨g, cap, cur, rfl, hb, hgg, rest⟩
  · exact .inl hn
  · exact .inr ⟨g, cap, cur, rfl, hb, f _ _ _ _ hgg h0 (fun e2 => by
      subst e2
      rw [hz] at hgg
      cases hgg
      exact h1 rfl) h2, rest⟩
/-- One item more, laid behind the others: what stands behind the append and the store. -/
structure Laid (b i z B sz : Nat) (S T : TypeId) (cz : Array Value) (W2 w3 : World) (w0 : World) (s : ByteArray) (e : Int) (v : Value) (n : Nat) (xs : List Value) : Prop where
  atz : w3.heap[z]? = some (.cells cz S)
  fr3 : Fr z T W2 w3
  put : (w3.setCell ⟨z, i, none⟩ v).heap[z]? = some (.cells (cz.setIfInBounds i v) S)
  own : (w3.setCell ⟨z, i, none⟩ v).ownsRow B T sz v n xs
  mv : Moved b w0 (w3.setCell ⟨z, i, none⟩ v) s e
  fr : Fr z T W2 (w3.setCell ⟨z, i, none⟩ v)
theorem lay_app {b i z sz k by0 : Nat} {S T tl : TypeId} {cz : Array Value} {W2 w0 : World} {s : ByteArray} {e : Int} {o : Option Addr} {c : Nat} {xs : List Value} (news : List Value) {i0 : TypeInfo} {zv : Value}
    (ht : Tryz.prog.underlying tl = some (.slice T)) (hi : Tryz.prog.info? T = some i0) (hz0 : i0.zero = some zv) (hz1 : i0.size = sz) (hz2 : i0.bytes = by0) (hzs : zv.cells.size = sz) (hsz : 0 < sz)
    (hM : Moved b w0 W2 s e) (hb : b < w0.heap.size) (hz : W2.heap[z]? = some (.cells cz S)) (hzw : w0.heap.size ≤ z) (how : W2.ownsRow w0.heap.size T sz (.slice o k c) k xs) (hST : T ≠ S)
    (hl : news.length = sz) (h1 : ∀ u ∈ news, u.oneCell' = true) (hk : k ≤ 1048576) (hby : by0 ≤ 1000) :
    ∃ g cap w3, (Builtin.append_ #[tl, tl] tl #[.slice o k c, .slice (some ⟨W2.heap.size, 0, none⟩) 1 1]).run Tryz.prog (W2.alloc (.cells news.toArray T)) = .ok (.slice (some ⟨g, 0, none⟩) (k + 1) cap) w3 ∧
      Laid b i z w0.heap.size sz S T cz W2 w3 w0 s e (.slice (some ⟨g, 0, none⟩) (k + 1) cap) (k + 1) (xs ++ news) := by
  have hs2 := hM.size
  have hby2 : (k + 1) * by0 ≤ 140737488355328 := by
    have : (k + 1) * by0 ≤ 1048577 * 1000 := Nat.mul_le_mul (by omega) hby
    omega
  obtain ⟨v', w3, hr, hown', hgrow, _⟩ := run_append_own (P := Tryz.prog) (w := W2.alloc (.cells news.toArray T)) w0.heap.size tl tl T i0 zv sz by0 ht hi hz0 hz1 hz2 hzs hsz (.slice o k c) k xs (World.ownsRow.alloc how _) ⟨W2.heap.size, 0, none⟩ 1 1 news (by omega)
    (fun j u hj => by rw [addr_add0]; exact cell_of_at (at_new W2 (.cells news.toArray T)) (by simpa using hj)) h1 (by unfold maxLen; omega) hby2 (by rw [World.size_alloc]; omega)
  obtain ⟨g', cap', rfl⟩ := ownsRow_succ hown'
  have hne : some z ≠ (Value.slice o k c).ownBlock := fun e2 => by
    rcases how.2 with ⟨h, _⟩ | ⟨g, cap, cur, h, _, hg, _⟩
    · rw [h] at e2; cases e2
    · rw [h] at e2
      have : z = g := by simpa [Value.ownBlock] using e2
      subst this
      rw [hz] at hg
      cases hg
      exact hST rfl
  have hz3 : w3.heap[z]? = some (.cells cz S) := (hgrow.block z (by rw [World.size_alloc]; have := lt_of_at hz; omega) hne).trans (at_alloc hz)
  have f3 : Fr z T W2 w3 := fun j cs t fz hj n0 n1 n2 => (hgrow.block j (by rw [World.size_alloc]; have := lt_of_at hj; omega) (fun e2 => by
    rcases how.2 with ⟨h, _⟩ | ⟨g, cap, cur, h, _, hg, _⟩
    · rw [h] at e2; cases e2
    · rw [h] at e2
      have : j = g := by simpa [Value.ownBlock] using e2
      subst this
      rw [hg] at hj
      cases hj
      exact n2 rfl)).trans (at_alloc hj)
  have m3 : Moved b w0 w3 s e := (hM.fresh (atT_lt hM.isT) ((Fresh.refl W2).alloc (.cells news.toArray T))).grown hgrow (fun g e => (World.ownsRow.lt how g e).1) hb
  refine ⟨g', cap', w3, hr, hz3, f3, at_set hz3 i _, own_type hown' hz3 hST i _, m3.off hzw hb _ _, fun j cs t fz hj n0 n1 n2 => ?_⟩
  exact at_off (f3 j cs t fz hj n0 n1 n2) n1 _
end Go.Proofs.YtldncgelghcjeaaGreatDoor.K
namespace Go.Proofs.YtldncgelghcjeaaGreatDoor.K
open Go.ChangeShapes Go.WideShapes Go.ChangeAt Go.RowKit

/-- A pod and its file, with where its rows lie. -/
structure M3 where
  file : ByteArray
  m : PM
def M3.p (x : M3) : P3 := ⟨x.file, x.m.pd⟩
def M3.cells (x : M3) : List Value := [.string x.file, .string x.m.name, .string x.m.ns, .int .i64 x.m.restart, .int .i64 x.m.grace, .bool x.m.host, .slice x.m.a x.m.cs.length x.m.cap]
def M3.val (x : M3) : Value := .agg #[.string x.file, x.m.val]
def m3s (l : List M3) : List Value := l.flatMap M3.cells
def pods3 (l : List M3) : List P3 := l.map (·.p)
theorem pods3_length (D : List M3) : (pods3 D).length = D.length := by simp [pods3]
theorem pods3_mem {D : List M3} {m : M3} (h : m ∈ D) : m.p ∈ pods3 D := List.mem_map_of_mem h
theorem pods3_get {D : List M3} {k : Nat} (h : k < D.length) (h' : k < (pods3 D).length) : (pods3 D)[k] = D[k].p := by simp [pods3]
theorem pods3_snoc (D : List M3) (m : M3) : pods3 (D ++ [m]) = pods3 D ++ [m.p] := by simp [pods3]
theorem m3s_len (l : List M3) : (m3s l).length = l.length * 7 := flat_length M3.cells 7 (fun _ => rfl) l
theorem m3s_snoc (l : List M3) (x : M3) : m3s (l ++ [x]) = m3s l ++ [.string x.file, .string x.m.name, .string x.m.ns, .int .i64 x.m.restart, .int .i64 x.m.grace, .bool x.m.host, .slice x.m.a x.m.cs.length x.m.cap] := by simp [m3s, M3.cells]
def M3.lies (w : World) (g o : Nat) (x : M3) : Prop :=
  w.cell? ⟨g, o, none⟩ = some (.string x.file) ∧ w.cell? ⟨g, o + 1, none⟩ = some (.string x.m.name) ∧ w.cell? ⟨g, o + 2, none⟩ = some (.string x.m.ns) ∧ w.cell? ⟨g, o + 3, none⟩ = some (.int .i64 x.m.restart) ∧ w.cell? ⟨g, o + 4, none⟩ = some (.int .i64 x.m.grace) ∧ w.cell? ⟨g, o + 5, none⟩ = some (.bool x.m.host) ∧ w.cell? ⟨g, o + 6, none⟩ = some (.slice x.m.a x.m.cs.length x.m.cap)
theorem m3_form {w : World} {a : Option Addr} {l : List M3} (h : RowAt w a (m3s l)) {i0 : Nat} (h0 : i0 < l.length) : ∃ g o, a = some ⟨g, o, none⟩ ∧ ∀ i (hi : i < l.length), l[i].lies w g (o + i * 7) := by
  obtain ⟨g, o, e, h⟩ := h.form (fun e => by
    have := m3s_len l
    rw [e] at this
    simp at this; omega)
  have each : ∀ i (hi : i < l.length) j x, j < 7 → l[i].cells[j]? = some x → w.cell? ⟨g, o + i * 7 + j, none⟩ = some x := fun i hi j x hj hx => by
    have := h _ _ ((flat_get M3.cells 7 (fun _ => rfl) l i hi j hj).trans hx)
    rw [Nat.add_assoc]; exact this
  exact ⟨g, o, e, fun i hi => ⟨each i hi 0 _ (by omega) rfl, each i hi 1 _ (by omega) rfl, each i hi 2 _ (by omega) rfl, each i hi 3 _ (by omega) rfl, each i hi 4 _ (by omega) rfl, each i hi 5 _ (by omega) rfl, each i hi 6 _ (by omega) rfl⟩⟩
/-- A state's row. -/
structure Row3 (w : World) (a : Option Addr) (l : List M3) : Prop where
  row : RowAt w a (m3s l)
  ins : ∀ x ∈ l, x.m.At w
theorem Row3.move {w w' : World} {a : Option Addr} {l : List M3} (h : Row3 w a l) (f : Fresh w w') : Row3 w' a l := ⟨h.row.move f, fun m hm => (h.ins m hm).move f⟩
theorem Row3.nil (w : World) (a : Option Addr) : Row3 w a [] := ⟨.nil _ _, by simp⟩
def st3 (seq : Int) (a : Option Addr) (n c : Nat) : Value := .agg #[.int .u64 seq, .slice a n c]
theorem st3_box {w : World} {b t : Nat} {seq : Int} {a : Option Addr} {n c : Nat} (h : w.heap[b]? = some (.cells #[.int .u64 seq, .slice a n c] t)) :
    w.cell? ⟨b, 0, none⟩ = some (.int .u64 seq) ∧ w.cell? ⟨b, 1, none⟩ = some (.slice a n c) ∧ ∀ i, w.frozen? ⟨b, i, none⟩ = false :=
  ⟨cell_of_at h rfl, cell_of_at h rfl, frozen_of_at h⟩
end Go.Proofs.YtldncgelghcjeaaGreatDoor.K
