/-
  States of version 1: what is wrong with one, its bytes, the state of bytes. No call.
-/
import Derived.Test.YtphjhlnjfcfdcaaKFile
import Derived.Test.YtphjhlnjfcfdcaaSMath
import Derived.Test.YtphjhlnjfcfdcaaTakes
import Derived.Test.YtphjhlnjfcfdcaaKOwn
namespace Go.Proofs.Ytphjhlnjfcfdcaa
open Go.ChangeShapes Go.WideShapes Go.ChangeAt Go.RowKit

/-! ### texts, compared -/
def leS (a b : ByteArray) : Bool := Op.bytesLess a.toList b.toList || a.toList == b.toList
theorem leS_empty {a : ByteArray} (h : 1 ≤ a.size) : leS a ⟨#[]⟩ = false := by
  unfold leS
  have hne : a.data.toList ≠ [] := fun e => by rw [Lib.size_eq, e] at h; simp at h
  rw [Lib.toList_data, Lib.toList_data]
  cases ha : a.data.toList with
  | nil => exact absurd ha hne
  | cons c r => rfl
theorem file_one {s : ByteArray} (h : fileB s = true) : 1 ≤ s.size ∧ s.size ≤ 64 := fileB_size h

/-! ### a pod of version 1 -/
structure P1 where
  file : ByteArray
  name : ByteArray
  image : ByteArray
  r : Int
theorem P1.ext {p q : P1} (h1 : p.file = q.file) (h2 : p.name = q.name) (h3 : p.image = q.image) (h4 : p.r = q.r) : p = q := by
  cases p; cases q; simp_all
def P1.eqB (p q : P1) : Bool := decide (p.file = q.file) && (decide (p.name = q.name) && (decide (p.image = q.image) && decide (p.r = q.r)))
theorem P1.eqB_iff (p q : P1) : P1.eqB p q = true ↔ p = q := by
  unfold P1.eqB
  simp only [Bool.and_eq_true, decide_eq_true_eq]
  exact ⟨fun ⟨a, b, c, d⟩ => P1.ext a b c d, fun h => by subst h; exact ⟨rfl, rfl, rfl, rfl⟩⟩
def eqL : List P1 → List P1 → Bool
  | [], [] => true
  | p :: l, q :: m => P1.eqB p q && eqL l m
  | _, _ => false
theorem eqL_len : ∀ (a b : List P1), a.length ≠ b.length → eqL a b = false
  | [], [], h => absurd rfl h
  | [], _ :: _, _ => rfl
  | _ :: _, [], _ => rfl
  | x :: a, y :: b, h => by
    rw [eqL, eqL_len a b (fun e => h (by simp [e])), Bool.and_false]
theorem eqL_self : ∀ a : List P1, eqL a a = true
  | [] => rfl
  | p :: l => by rw [eqL, eqL_self l, (P1.eqB_iff p p).2 rfl]; rfl
theorem eqL_drop {a b : List P1} {k : Nat} (h : k < a.length) (h' : k < b.length) : eqL (a.drop k) (b.drop k) = (P1.eqB a[k] b[k] && eqL (a.drop (k + 1)) (b.drop (k + 1))) := by
  rw [List.drop_eq_getElem_cons h, List.drop_eq_getElem_cons h', eqL]
/-- What is wrong with a pod, behind one of that File. -/
def fE (p : P1) (ahead : ByteArray) : Int :=
  if fileB p.file = true ∧ nameB p.name.data.toList = true then
    (if imgB p.image.data.toList = true ∧ leS p.file ahead = false then (if 2 < p.r then 7 else 0) else 6)
  else 13
def chkF : ByteArray → List P1 → Int
  | _, [] => 0
  | a, p :: l => if fE p a = 0 then chkF p.file l else fE p a
def chk1 (l : List P1) : Int := if 1024 < l.length then 18 else chkF ⟨#[]⟩ l
/-- The File ahead of the k-th pod. -/
def aheadOf (l : List P1) (k : Nat) : ByteArray := if k = 0 then ⟨#[]⟩ else (l.map (·.file)).getD (k - 1) ⟨#[]⟩
theorem aheadOf_zero (l : List P1) : aheadOf l 0 = ⟨#[]⟩ := rfl
theorem aheadOf_succ (l : List P1) (k : Nat) (h : k < l.length) : aheadOf l (k + 1) = l[k].file := by
  unfold aheadOf
  rw [if_neg (by omega), Nat.add_sub_cancel, List.getD_eq_getElem?_getD, List.getElem?_map, List.getElem?_eq_getElem h]; rfl
theorem chkF_drop {l : List P1} {k : Nat} (h : k < l.length) (a : ByteArray) : chkF a (l.drop k) = if fE l[k] a = 0 then chkF l[k].file (l.drop (k + 1)) else fE l[k] a := by
  rw [List.drop_eq_getElem_cons h, chkF]
theorem fE_ok {p : P1} {a : ByteArray} (h : fE p a = 0) : fileB p.file = true ∧ nameB p.name.data.toList = true ∧ imgB p.image.data.toList = true ∧ p.r ≤ 2 := by
  unfold fE at h
  split at h
  · rename_i h1
    split at h
    · rename_i h2
      split at h
      · simp at h
      · exact ⟨h1.1, h1.2, h2.1, by omega⟩
    · simp at h
  · simp at h
theorem chkF_ok : ∀ (l : List P1) (a : ByteArray), chkF a l = 0 → ∀ p ∈ l, fileB p.file = true ∧ nameB p.name.data.toList = true ∧ imgB p.image.data.toList = true ∧ p.r ≤ 2
  | [], _, _, p, hp => by simp at hp
  | q :: l, a, h, p, hp => by
    rw [chkF] at h
    split at h
    · rename_i h0
      rcases List.mem_cons.1 hp with rfl | hp
      · exact fE_ok h0
      · exact chkF_ok l _ h p hp
    · rename_i h0
      exact absurd h h0
theorem nameB_len {l : List UInt8} (h : nameB l = true) : l.length ≤ 253 := by
  unfold nameB at h
  simp only [Bool.and_eq_true, decide_eq_true_eq] at h
  exact h.1.2
theorem imgB_len {l : List UInt8} (h : imgB l = true) : l.length ≤ 255 := by
  unfold imgB at h
  simp only [Bool.and_eq_true, decide_eq_true_eq] at h
  exact h.1.2
/-- Texts no greater than that, and a byte. -/
structure P1.Fit (b : Nat) (p : P1) : Prop where
  file : p.file.size ≤ b
  name : p.name.size ≤ b
  image : p.image.size ≤ b
  r0 : 0 ≤ p.r
  r1 : p.r ≤ 255
theorem P1.Fit.mono {b c : Nat} {p : P1} (h : p.Fit b) (hbc : b ≤ c) : p.Fit c := ⟨Nat.le_trans h.file hbc, Nat.le_trans h.name hbc, Nat.le_trans h.image hbc, h.r0, h.r1⟩
theorem chk_fit {l : List P1} (h : chk1 l = 0) (hr : ∀ p ∈ l, 0 ≤ p.r ∧ p.r ≤ 255) : l.length ≤ 1024 ∧ ∀ p ∈ l, p.Fit 255 := by
  unfold chk1 at h
  split at h
  · simp at h
  · refine ⟨by omega, fun p hp => ?_⟩
    obtain ⟨h1, h2, h3, h4⟩ := chkF_ok l _ h p hp
    have h2 := nameB_len h2
    have h3 := imgB_len h3
    have h1 := (file_one h1).2
    have := hr p hp
    refine ⟨by omega, ?_, ?_, this.1, this.2⟩
    · rw [Lib.size_eq]; omega
    · rw [Lib.size_eq]; omega

/-! ### bytes -/
def txtL (s : ByteArray) : List UInt8 := be 2 s.size ++ s.data.toList
def podL (p : P1) : List UInt8 := txtL p.file ++ (txtL p.name ++ (txtL p.image ++ be 1 p.r.toNat))
def enc1L (seq : Int) (l : List P1) : List UInt8 := be 4 seq.toNat ++ (be 2 l.length ++ l.flatMap podL)
theorem txtL_len (s : ByteArray) : (txtL s).length = 2 + s.size := by
  rw [txtL, List.length_append, be_length, ← Lib.size_eq]
theorem podL_len {p : P1} {b : Nat} (h : p.Fit b) : (podL p).length ≤ 7 + 3 * b := by
  simp only [podL, List.length_append, txtL_len, be_length]
  have := h.file; have := h.name; have := h.image
  omega
theorem flat_le {α : Type} (f : α → List UInt8) (b : Nat) (l : List α) (h : ∀ x ∈ l, (f x).length ≤ b) : (l.flatMap f).length ≤ l.length * b := by
  induction l with
  | nil => simp
  | cons x l ih =>
    have h1 := h x (by simp)
    have h2 := ih (fun y hy => h y (by simp [hy]))
    rw [List.flatMap_cons, List.length_append, List.length_cons, Nat.succ_mul]
    omega
theorem txt_tx (s : ByteArray) : beS 2 s.size ++ s = tx (txtL s) := by
  apply list_ext
  rw [app_list, tx_toList]; rfl
theorem beS_tx (n v : Nat) : beS n v = tx (be n v) := rfl
end Go.Proofs.Ytphjhlnjfcfdcaa
