/-
  The state of version 1 of bytes: what is taken, and that it is what was put. No call.
-/
import Derived.Test.YtphjhlnjfcfdcaaKBase
namespace Go.Proofs.Ytphjhlnjfcfdcaa
open Go.ChangeShapes Go.WideShapes Go.ChangeAt Go.RowKit

/-! ### what is taken -/
theorem textT_err {s : ByteArray} {e : Int} (h : e ≠ 0) : textT s e = (s, e, ⟨#[]⟩) := by
  have h2 : takeT s e 2 = (s, e, 0) := by simp [takeT, h]
  unfold textT
  rw [h2, if_pos h]
theorem takeT_err {s : ByteArray} {e n : Int} (h : e ≠ 0) : takeT s e n = (s, e, 0) := by simp [takeT, h]
theorem textT_len {s s1 : ByteArray} {e e1 : Int} {x : ByteArray} (h : textT s e = (s1, e1, x)) : s1.size ≤ s.size ∧ x.size ≤ 4096 := by
  obtain ⟨t1, t2, t3, ht⟩ : ∃ t1 t2 t3, takeT s e 2 = (t1, t2, t3) := ⟨_, _, _, rfl⟩
  have hl := take_len ht
  unfold textT at h
  rw [ht] at h
  dsimp only at h
  split at h
  · cases h; exact ⟨hl, Nat.zero_le _⟩
  split at h
  · cases h; exact ⟨Nat.le_refl _, Nat.zero_le _⟩
  split at h
  · cases h; exact ⟨Nat.le_refl _, Nat.zero_le _⟩
  · cases h
    refine ⟨Nat.le_trans (extract_size_le _ _ _) hl, ?_⟩
    rw [ByteArray.size_extract]; omega
def podT (s : ByteArray) (e : Int) : ByteArray × Int × P1 :=
  ((takeT (textT (textT (textT s e).1 (textT s e).2.1).1 (textT (textT s e).1 (textT s e).2.1).2.1).1 (textT (textT (textT s e).1 (textT s e).2.1).1 (textT (textT s e).1 (textT s e).2.1).2.1).2.1 1).1,
   (takeT (textT (textT (textT s e).1 (textT s e).2.1).1 (textT (textT s e).1 (textT s e).2.1).2.1).1 (textT (textT (textT s e).1 (textT s e).2.1).1 (textT (textT s e).1 (textT s e).2.1).2.1).2.1 1).2.1,
   ⟨(textT s e).2.2, (textT (textT s e).1 (textT s e).2.1).2.2, (textT (textT (textT s e).1 (textT s e).2.1).1 (textT (textT s e).1 (textT s e).2.1).2.1).2.2,
    (takeT (textT (textT (textT s e).1 (textT s e).2.1).1 (textT (textT s e).1 (textT s e).2.1).2.1).1 (textT (textT (textT s e).1 (textT s e).2.1).1 (textT (textT s e).1 (textT s e).2.1).2.1).2.1 1).2.2⟩)
theorem podT_eq {s s1 s2 s3 s4 x1 x2 x3 : ByteArray} {e e1 e2 e3 e4 v : Int} (h1 : textT s e = (s1, e1, x1)) (h2 : textT s1 e1 = (s2, e2, x2)) (h3 : textT s2 e2 = (s3, e3, x3)) (h4 : takeT s3 e3 1 = (s4, e4, v)) :
    podT s e = (s4, e4, ⟨x1, x2, x3, v⟩) := by
  simp only [podT, h1, h2, h3, h4]
/-- The four takes, told. -/
structure Pod1T (s : ByteArray) (e : Int) (s1 s2 s3 s4 x1 x2 x3 : ByteArray) (e1 e2 e3 e4 v : Int) : Prop where
  h1 : textT s e = (s1, e1, x1)
  h2 : textT s1 e1 = (s2, e2, x2)
  h3 : textT s2 e2 = (s3, e3, x3)
  h4 : takeT s3 e3 1 = (s4, e4, v)
theorem pod1T (s : ByteArray) (e : Int) : ∃ s1 s2 s3 s4 x1 x2 x3 e1 e2 e3 e4 v, Pod1T s e s1 s2 s3 s4 x1 x2 x3 e1 e2 e3 e4 v :=
  ⟨_, _, _, _, _, _, _, _, _, _, _, _, rfl, rfl, rfl, rfl⟩
theorem Pod1T.v {s s1 s2 s3 s4 x1 x2 x3 : ByteArray} {e e1 e2 e3 e4 v : Int} (h : Pod1T s e s1 s2 s3 s4 x1 x2 x3 e1 e2 e3 e4 v) : 0 ≤ v ∧ v < 256 := by
  have := take_val s3 e3 1
  rw [show ((1 : Nat) : Int) = 1 from rfl, h.h4] at this
  exact this
theorem Pod1T.le {s s1 s2 s3 s4 x1 x2 x3 : ByteArray} {e e1 e2 e3 e4 v : Int} (h : Pod1T s e s1 s2 s3 s4 x1 x2 x3 e1 e2 e3 e4 v) :
    (s1.size ≤ s.size ∧ s2.size ≤ s.size ∧ s3.size ≤ s.size ∧ s4.size ≤ s.size) ∧ x1.size ≤ 4096 ∧ x2.size ≤ 4096 ∧ x3.size ≤ 4096 := by
  have a1 := textT_len h.h1
  have a2 := textT_len h.h2
  have a3 := textT_len h.h3
  have a4 := take_len h.h4
  omega
theorem Pod1T.fit {s s1 s2 s3 s4 x1 x2 x3 : ByteArray} {e e1 e2 e3 e4 v : Int} (h : Pod1T s e s1 s2 s3 s4 x1 x2 x3 e1 e2 e3 e4 v) : P1.Fit 4096 ⟨x1, x2, x3, v⟩ := by
  have a := h.le
  have b := h.v
  exact ⟨a.2.1, a.2.2.1, a.2.2.2, b.1, by dsimp only; omega⟩
theorem podT_err {s : ByteArray} {e : Int} (h : e ≠ 0) : (podT s e).1 = s ∧ (podT s e).2.1 = e := by
  rw [podT_eq (textT_err h) (textT_err h) (textT_err h) (takeT_err h)]
  exact ⟨rfl, rfl⟩
def podsT : Nat → ByteArray → Int → ByteArray × Int × List P1
  | 0, s, e => (s, e, [])
  | n + 1, s, e => ((podsT n (podT s e).1 (podT s e).2.1).1, (podsT n (podT s e).1 (podT s e).2.1).2.1, (podT s e).2.2 :: (podsT n (podT s e).1 (podT s e).2.1).2.2)
theorem podsT_err : ∀ (n : Nat) {s : ByteArray} {e : Int}, e ≠ 0 → (podsT n s e).1 = s ∧ (podsT n s e).2.1 = e
  | 0, _, _, _ => ⟨rfl, rfl⟩
  | n + 1, s, e, h => by
    obtain ⟨h1, h2⟩ := podT_err (s := s) h
    rw [podsT, h1, h2]
    exact podsT_err n h
/-- What was taken ahead of the rest. -/
def aheadT (D : List P1) (q : ByteArray × Int × List P1) : ByteArray × Int × List P1 := (q.1, q.2.1, D ++ q.2.2)
theorem aheadT_nil (q : ByteArray × Int × List P1) : aheadT [] q = q := rfl
theorem podsT_step {n k : Nat} (hk : k < n) {s s1 : ByteArray} {e e1 : Int} {p : P1} (h : podT s e = (s1, e1, p)) (D : List P1) :
    aheadT D (podsT (n - k) s e) = aheadT (D ++ [p]) (podsT (n - (k + 1)) s1 e1) := by
  obtain ⟨m, hm⟩ : ∃ m, n - k = m + 1 := ⟨n - k - 1, by omega⟩
  rw [hm, show n - (k + 1) = m by omega, podsT, h]
  simp [aheadT]
def decT (b : ByteArray) : Int × Int × List P1 :=
  if 1024 < (takeT (takeT b 0 4).1 (takeT b 0 4).2.1 2).2.2 then (18, 0, []) else
  if endT (podsT (takeT (takeT b 0 4).1 (takeT b 0 4).2.1 2).2.2.toNat (takeT (takeT b 0 4).1 (takeT b 0 4).2.1 2).1 (takeT (takeT b 0 4).1 (takeT b 0 4).2.1 2).2.1).1
      (podsT (takeT (takeT b 0 4).1 (takeT b 0 4).2.1 2).2.2.toNat (takeT (takeT b 0 4).1 (takeT b 0 4).2.1 2).1 (takeT (takeT b 0 4).1 (takeT b 0 4).2.1 2).2.1).2.1 ≠ 0 then
    (endT (podsT (takeT (takeT b 0 4).1 (takeT b 0 4).2.1 2).2.2.toNat (takeT (takeT b 0 4).1 (takeT b 0 4).2.1 2).1 (takeT (takeT b 0 4).1 (takeT b 0 4).2.1 2).2.1).1
      (podsT (takeT (takeT b 0 4).1 (takeT b 0 4).2.1 2).2.2.toNat (takeT (takeT b 0 4).1 (takeT b 0 4).2.1 2).1 (takeT (takeT b 0 4).1 (takeT b 0 4).2.1 2).2.1).2.1, 0, [])
  else if chk1 (podsT (takeT (takeT b 0 4).1 (takeT b 0 4).2.1 2).2.2.toNat (takeT (takeT b 0 4).1 (takeT b 0 4).2.1 2).1 (takeT (takeT b 0 4).1 (takeT b 0 4).2.1 2).2.1).2.2 ≠ 0 then
    (chk1 (podsT (takeT (takeT b 0 4).1 (takeT b 0 4).2.1 2).2.2.toNat (takeT (takeT b 0 4).1 (takeT b 0 4).2.1 2).1 (takeT (takeT b 0 4).1 (takeT b 0 4).2.1 2).2.1).2.2, 0, [])
  else (0, (takeT b 0 4).2.2, (podsT (takeT (takeT b 0 4).1 (takeT b 0 4).2.1 2).2.2.toNat (takeT (takeT b 0 4).1 (takeT b 0 4).2.1 2).1 (takeT (takeT b 0 4).1 (takeT b 0 4).2.1 2).2.1).2.2)
/-- The takes of a state, told. -/
structure Dec1T (b s1 s2 s3 : ByteArray) (e1 e2 e3 q n : Int) (L : List P1) : Prop where
  h1 : takeT b 0 4 = (s1, e1, q)
  h2 : takeT s1 e1 2 = (s2, e2, n)
  h3 : podsT n.toNat s2 e2 = (s3, e3, L)
theorem dec1T (b : ByteArray) : ∃ s1 s2 s3 e1 e2 e3 q n L, Dec1T b s1 s2 s3 e1 e2 e3 q n L := ⟨_, _, _, _, _, _, _, _, _, rfl, rfl, rfl⟩
theorem decT_eq {b s1 s2 s3 : ByteArray} {e1 e2 e3 q n : Int} {L : List P1} (h : Dec1T b s1 s2 s3 e1 e2 e3 q n L) :
    decT b = if 1024 < n then (18, 0, []) else if endT s3 e3 ≠ 0 then (endT s3 e3, 0, []) else if chk1 L ≠ 0 then (chk1 L, 0, []) else (0, q, L) := by
  unfold decT
  simp only [h.h1, h.h2, h.h3]
theorem Dec1T.vals {b s1 s2 s3 : ByteArray} {e1 e2 e3 q n : Int} {L : List P1} (h : Dec1T b s1 s2 s3 e1 e2 e3 q n L) : (0 ≤ q ∧ q ≤ 4294967295) ∧ (0 ≤ n ∧ n < 65536) := by
  have a := take_val b 0 4
  have c := take_val s1 e1 2
  rw [show ((4 : Nat) : Int) = 4 from rfl, h.h1] at a
  rw [show ((2 : Nat) : Int) = 2 from rfl, h.h2] at c
  have a2 : q < 4294967296 := a.2
  have c2 : n < 65536 := c.2
  exact ⟨⟨a.1, by omega⟩, ⟨c.1, c2⟩⟩
theorem Dec1T.le {b s1 s2 s3 : ByteArray} {e1 e2 e3 q n : Int} {L : List P1} (h : Dec1T b s1 s2 s3 e1 e2 e3 q n L) : s1.size ≤ b.size ∧ s2.size ≤ b.size := by
  have a := take_len h.h1
  have c := take_len h.h2
  omega
/-- Where something went wrong, nothing is taken. -/
theorem Dec1T.zero {b s1 s2 s3 : ByteArray} {e1 e2 e3 q n : Int} {L : List P1} (h : Dec1T b s1 s2 s3 e1 e2 e3 q n L) (he : e2 ≠ 0) : n = 0 := by
  rcases Int.lt_or_eq_of_le h.vals.2.1 with h0 | h0
  · have : e2 = 0 := by
      have h2 := h.h2
      unfold takeT at h2
      split at h2
      · simp at h2; omega
      split at h2
      · simp at h2; omega
      split at h2
      · simp at h2; omega
      · simp only [Prod.mk.injEq] at h2; omega
    exact absurd this he
  · exact h0.symm
theorem podsT_fit : ∀ (n : Nat) (s : ByteArray) (e : Int), ∀ p ∈ (podsT n s e).2.2, p.Fit 4096
  | 0, _, _, p, hp => by simp [podsT] at hp
  | n + 1, s, e, p, hp => by
    rw [podsT] at hp
    rcases List.mem_cons.1 hp with h | h
    · obtain ⟨s1, s2, s3, s4, x1, x2, x3, e1, e2, e3, e4, v, hT⟩ := pod1T s e
      rw [h, podT_eq hT.h1 hT.h2 hT.h3 hT.h4]
      exact hT.fit
    · exact podsT_fit n _ _ p h
theorem podsT_len : ∀ (n : Nat) (s : ByteArray) (e : Int), (podsT n s e).2.2.length = n
  | 0, _, _ => rfl
  | n + 1, s, e => by rw [podsT, List.length_cons, podsT_len n]
/-- What is decoded: few pods, short texts. -/
theorem decT_fit (b : ByteArray) : (∀ p ∈ (decT b).2.2, p.Fit 4096) ∧ (decT b).2.2.length ≤ 1024 ∧ 0 ≤ (decT b).2.1 ∧ (decT b).2.1 ≤ 4294967295 := by
  obtain ⟨s1, s2, s3, e1, e2, e3, q, n, L, hD⟩ := dec1T b
  have hv := hD.vals
  rw [decT_eq hD]
  split
  · exact ⟨by simp, by simp, by simp, by simp⟩
  split
  · exact ⟨by simp, by simp, by simp, by simp⟩
  split
  · exact ⟨by simp, by simp, by simp, by simp⟩
  · rename_i h1 _ _
    have h3 := congrArg (fun x => x.2.2) hD.h3
    dsimp only at h3
    refine ⟨fun p hp => ?_, ?_, hv.1.1, hv.1.2⟩
    · exact podsT_fit n.toNat s2 e2 p (by rw [h3]; exact hp)
    · have := podsT_len n.toNat s2 e2
      rw [h3] at this
      rw [this]; omega
end Go.Proofs.Ytphjhlnjfcfdcaa
