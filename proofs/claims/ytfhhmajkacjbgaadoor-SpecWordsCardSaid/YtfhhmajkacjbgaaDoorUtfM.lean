/-
  Of valid UTF-8: bytes behind a lead byte.
-/
import Derived.Test.YtfhhmajkacjbgaaDoorRead2
namespace Go.Proofs.YtfhhmajkacjbgaaDoor
open Go.ChangeShapes Go.WideShapes Go.ChangeAt Go.RowKit
variable {w : World}

/-- The bytes behind a lead byte: so many, the first of them in a range of its own. -/
def contOK : List UInt8 → Nat → Nat → Nat → Bool
  | _, 0, _, _ => true
  | [], _ + 1, _, _ => false
  | b :: l, n + 1, lo, hi => decide (lo ≤ b.toNat ∧ b.toNat ≤ hi) && contOK l n 128 191
theorem valid_lead (c : UInt8) (l : List UInt8) (n lo hi : Nat) (hc : 128 ≤ c.toNat) (hn : n = 1 ∨ n = 2 ∨ n = 3) (h1 : Lib.firstT c.toNat % 8 = n + 1) (h2 : Lib.accLo (Lib.firstT c.toNat / 16) = lo) (h3 : Lib.accHi (Lib.firstT c.toNat / 16) = hi) :
    Lib.validD (c :: l) = (contOK l n lo hi && Lib.validD (l.drop n)) := by
  rw [Lib.validD_lead (c :: l) (by simp) (by simpa using hc)]
  simp only [List.getD_cons_zero, List.getD_cons_succ, h1, h2, h3]
  rcases hn with rfl | rfl | rfl
  · rcases l with _ | ⟨a, l⟩
    · simp [Lib.checkN, contOK]
    · by_cases ha : lo ≤ a.toNat ∧ a.toNat ≤ hi
      · rw [Lib.checkN, if_pos rfl, if_neg (by simp; omega)]
        simp [contOK, ha]
      · rw [Lib.checkN, if_pos rfl, if_pos (by simp; omega)]
        simp [contOK, ha]
  · rcases l with _ | ⟨a, _ | ⟨b, l⟩⟩
    · simp [Lib.checkN, contOK]
    · simp [Lib.checkN, contOK]
    · by_cases ha : lo ≤ a.toNat ∧ a.toNat ≤ hi
      · by_cases hb : 128 ≤ b.toNat ∧ b.toNat ≤ 191
        · rw [Lib.checkN, if_neg (by omega), if_pos rfl, if_neg (by simp; omega)]
          simp [contOK, ha, hb]
        · rw [Lib.checkN, if_neg (by omega), if_pos rfl, if_pos (by simp; omega)]
          simp [contOK, hb]
      · rw [Lib.checkN, if_neg (by omega), if_pos rfl, if_pos (by simp; omega)]
        simp [contOK, ha]
  · rcases l with _ | ⟨a, _ | ⟨b, _ | ⟨d, l⟩⟩⟩
    · simp [Lib.checkN, contOK]
    · simp [Lib.checkN, contOK]
    · simp [Lib.checkN, contOK]
    · by_cases ha : lo ≤ a.toNat ∧ a.toNat ≤ hi
      · by_cases hb : 128 ≤ b.toNat ∧ b.toNat ≤ 191
        · by_cases hd : 128 ≤ d.toNat ∧ d.toNat ≤ 191
          · rw [Lib.checkN, if_neg (by omega), if_neg (by omega), if_pos rfl, if_neg (by simp; omega)]
            simp [contOK, ha, hb, hd]
          · rw [Lib.checkN, if_neg (by omega), if_neg (by omega), if_pos rfl, if_pos (by simp; omega)]
            simp [contOK, hd]
        · rw [Lib.checkN, if_neg (by omega), if_neg (by omega), if_pos rfl, if_pos (by simp; omega)]
          simp [contOK, hb]
      · rw [Lib.checkN, if_neg (by omega), if_neg (by omega), if_pos rfl, if_pos (by simp; omega)]
        simp [contOK, ha]
theorem valid_bad (c : UInt8) (l : List UInt8) (hc : 128 ≤ c.toNat) (h1 : Lib.firstT c.toNat = 241) : Lib.validD (c :: l) = false := by
  rw [Lib.validD_lead (c :: l) (by simp) (by simpa using hc)]
  simp [Lib.checkN, h1]
theorem drop_at (s : ByteArray) (i : Nat) (h : i < s.size) : s.data.toList.drop i = s[i] :: s.data.toList.drop (i + 1) := by
  rw [List.drop_eq_getElem_cons (by simpa using h)]; rfl
/-- What a lead byte asks for. -/
def Lead (s : ByteArray) (i n lo hi : Nat) : Prop := Lib.validD (s.data.toList.drop i) = (contOK (s.data.toList.drop (i + 1)) n lo hi && Lib.validD (s.data.toList.drop (i + 1 + n)))
theorem lead_of (s : ByteArray) (i n lo hi : Nat) (h : i < s.size) (hc : 128 ≤ s[i].toNat) (hn : n = 1 ∨ n = 2 ∨ n = 3) (h1 : Lib.firstT s[i].toNat % 8 = n + 1) (h2 : Lib.accLo (Lib.firstT s[i].toNat / 16) = lo) (h3 : Lib.accHi (Lib.firstT s[i].toNat / 16) = hi) : Lead s i n lo hi := by
  unfold Lead
  rw [drop_at s i h, valid_lead _ _ n lo hi hc hn h1 h2 h3, List.drop_drop]
theorem lead_ascii (s : ByteArray) (i : Nat) (h : i < s.size) (hc : s[i].toNat < 128) : Lead s i 0 128 191 := by
  unfold Lead
  rw [drop_at s i h, Lib.validD_cons _ _ hc, contOK, Bool.true_and, Nat.add_zero]
theorem lead_bad (s : ByteArray) (i : Nat) (h : i < s.size) (hc : 128 ≤ s[i].toNat) (h1 : Lib.firstT s[i].toNat = 241) : Lib.validD (s.data.toList.drop i) = false := by
  rw [drop_at s i h, valid_bad _ _ hc h1]
/-- So far the bytes behind are well. -/
def Cont (s : ByteArray) (i n lo hi k lo' hi' : Nat) : Prop := contOK (s.data.toList.drop (i + 1)) n lo hi = contOK (s.data.toList.drop (i + k)) (n + 1 - k) lo' hi'
theorem cont_short {s : ByteArray} {i n lo hi k lo' hi' : Nat} (h : Cont s i n lo hi k lo' hi') (hk : k ≤ n) (hs : s.size ≤ i + k) : contOK (s.data.toList.drop (i + 1)) n lo hi = false := by
  rw [h, List.drop_eq_nil_of_le (by simpa using hs), show n + 1 - k = (n - k) + 1 by omega, contOK]
theorem cont_no {s : ByteArray} {i n lo hi k lo' hi' : Nat} (h : Cont s i n lo hi k lo' hi') (hk : k ≤ n) (hs : i + k < s.size) (hb : s[i + k].toNat < lo' ∨ hi' < s[i + k].toNat) : contOK (s.data.toList.drop (i + 1)) n lo hi = false := by
  rw [h, drop_at s (i + k) hs, show n + 1 - k = (n - k) + 1 by omega, contOK, decide_eq_false (by omega), Bool.false_and]
theorem cont_yes {s : ByteArray} {i n lo hi k lo' hi' : Nat} (h : Cont s i n lo hi k lo' hi') (hk : k ≤ n) (hs : i + k < s.size) (hb : lo' ≤ s[i + k].toNat ∧ s[i + k].toNat ≤ hi') : Cont s i n lo hi (k + 1) 128 191 := by
  unfold Cont at h ⊢
  rw [h, drop_at s (i + k) hs, show n + 1 - k = (n - k) + 1 by omega, contOK, decide_eq_true hb, Bool.true_and, show n + 1 - (k + 1) = n - k by omega, Nat.add_assoc]
theorem cont_end {s : ByteArray} {i n lo hi lo' hi' : Nat} (h : Cont s i n lo hi (n + 1) lo' hi') : contOK (s.data.toList.drop (i + 1)) n lo hi = true := by
  rw [h, Nat.sub_self, contOK]
end Go.Proofs.YtfhhmajkacjbgaaDoor
