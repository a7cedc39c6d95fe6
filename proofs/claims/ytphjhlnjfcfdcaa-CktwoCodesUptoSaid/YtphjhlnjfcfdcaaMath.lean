/-
  Plain facts on numbers as bytes, highest first, and on the row of cells that the program fills with them: no condition; nothing here speaks of the program.
-/
import Derived.WalkKit
import Derived.Deep.OwnRows
import Derived.Laws.IdiomStrings
namespace Go.Proofs.Ytphjhlnjfcfdcaa

/-- n is 1, 2, 4 or 8. -/
def okN (n : Int) : Bool := n == 1 || n == 2 || n == 4 || n == 8
theorem okN_cases {n : Int} (h : okN n = true) : n = 1 ∨ n = 2 ∨ n = 4 ∨ n = 8 := by
  simp [okN] at h; omega
theorem okN_not {n : Int} (h : okN n = false) : n ≠ 1 ∧ n ≠ 2 ∧ n ≠ 4 ∧ n ≠ 8 := by
  simp [okN] at h; omega

/-- The byte of v that stands k places above the lowest. -/
def dig (v k : Nat) : UInt8 := UInt8.ofNat (v / 256 ^ k)
/-- The k lowest bytes of v, the highest first. -/
def be : Nat → Nat → List UInt8
  | 0, _ => []
  | k + 1, v => dig v k :: be k v
def beS (n v : Nat) : ByteArray := ⟨(be n v).toArray⟩
theorem be_length (n v : Nat) : (be n v).length = n := by
  induction n with
  | zero => rfl
  | succ n ih => simp [be, ih]
theorem beS_size (n v : Nat) : (beS n v).size = n := by
  show (be n v).toArray.size = n
  simp [be_length]
theorem beS_zero (v : Nat) : beS 0 v = ⟨#[]⟩ := rfl
theorem beS_succ (k v : Nat) : ⟨#[dig v k]⟩ ++ beS k v = beS (k + 1) v := by
  unfold beS
  rw [ByteArray.mk_append_mk]
  simp [be]
theorem pow256 (k : Nat) : 256 ^ k = 2 ^ (8 * k) := by
  rw [Nat.pow_mul]
theorem dig_toNat (v k : Nat) : (dig v k).toNat = v / 256 ^ k % 256 := by
  simp [dig]
theorem dig_int (v : Int) (k : Nat) (h : 0 ≤ v) : ((dig v.toNat k).toNat : Int) = v / 2 ^ (8 * k) % 256 := by
  obtain ⟨n, rfl⟩ := Int.eq_ofNat_of_zero_le h
  rw [dig_toNat, pow256, Int.toNat_natCast, Int.natCast_emod, Int.natCast_ediv, Int.natCast_pow]
  rfl

/-- v without its k lowest bytes. -/
def qu (v : Int) (k : Nat) : Int := ((v.toNat / 256 ^ k : Nat) : Int)
theorem qu_zero (v : Int) (h : 0 ≤ v) : qu v 0 = v := by simp [qu]; omega
theorem qu_succ (v : Int) (k : Nat) : qu v (k + 1) = qu v k / 256 := by
  unfold qu
  rw [Nat.pow_succ, ← Nat.div_div_eq_div_mul, Int.natCast_ediv]
  rfl
theorem qu_bd (v : Int) (k : Nat) (h0 : 0 ≤ v) (h1 : v < 18446744073709551616) : 0 ≤ qu v k ∧ qu v k < 18446744073709551616 := by
  induction k with
  | zero => rw [qu_zero v h0]; omega
  | succ k ih => rw [qu_succ]; omega
theorem qu_dig (v : Int) (k : Nat) : ((dig v.toNat k).toNat : Int) = qu v k % 256 := by
  rw [dig_toNat, Int.natCast_emod]
  rfl

/-- The row of n cells behind k rounds: the k lowest bytes stand at its end. -/
def cellsAt (n k v : Nat) : Array Value := (List.replicate (n - k) (Value.int .u8 0) ++ (be k v).map fun c => Value.int .u8 (c.toNat : Int)).toArray
theorem cellsAt_made (n v : Nat) : madeCells #[Value.int .u8 0] n = cellsAt n 0 v := by
  apply Array.ext_getElem?
  intro i
  by_cases h : i < n
  · simp [madeCells, cellsAt, be, h, Nat.mod_one]
  · simp [madeCells, cellsAt, be, h]
theorem cellsAt_get (n k v : Nat) (h : k < n) : (cellsAt n k v)[n - 1 - k]? = some (.int .u8 0) := by
  unfold cellsAt
  rw [List.getElem?_toArray, List.getElem?_append_left (by simp; omega), List.getElem?_replicate, if_pos (by omega)]
theorem cellsAt_set (n k : Nat) (v : Int) (h0 : 0 ≤ v) (h : k < n) : (cellsAt n k v.toNat).setIfInBounds (n - 1 - k) (.int .u8 (v / 2 ^ (8 * k) % 256)) = cellsAt n (k + 1) v.toNat := by
  rw [← dig_int v k h0]
  unfold cellsAt
  obtain ⟨m, rfl⟩ : ∃ m, n = m + 1 + k := ⟨n - 1 - k, by omega⟩
  have e1 : m + 1 + k - k = m + 1 := by omega
  have e2 : m + 1 + k - (k + 1) = m := by omega
  have e3 : m + 1 + k - 1 - k = m := by omega
  rw [e1, e2, e3, List.replicate_succ', List.setIfInBounds_toArray, List.append_assoc, List.set_append_right _ _ (by simp)]
  simp [be]
theorem cellsAt_all (n v j : Nat) (hj : j < (be n v).length) : (cellsAt n n v)[j]? = some (.int .u8 ((be n v)[j].toNat : Int)) := by
  unfold cellsAt
  simp [hj]
end Go.Proofs.Ytphjhlnjfcfdcaa
