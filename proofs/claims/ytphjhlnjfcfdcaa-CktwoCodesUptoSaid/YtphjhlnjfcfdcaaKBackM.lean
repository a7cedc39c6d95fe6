/-
  What was put is taken as it was, and what was taken is put as it was: numbers, texts, states of version 1. No call.
-/
import Derived.Test.YtphjhlnjfcfdcaaKTakeM
import Derived.Lib.IndexBytes
namespace Go.Proofs.Ytphjhlnjfcfdcaa
open Go.ChangeShapes Go.WideShapes Go.ChangeAt Go.RowKit

/-! ### put, then taken -/
theorem numB_cons (c : UInt8) (l : List UInt8) : numB (c :: l) = c.toNat * 256 ^ l.length + numB l := by
  suffices h : ∀ r : List UInt8, numB (c :: r.reverse) = c.toNat * 256 ^ r.length + numB r.reverse by
    have := h l.reverse; simpa using this
  intro r
  induction r with
  | nil => simp [numB]
  | cons d r ih =>
    have e : c :: (d :: r).reverse = (c :: r.reverse) ++ [d] := by simp
    rw [e, numB_snoc, ih, List.reverse_cons, numB_snoc, List.length_cons, Nat.pow_succ, Nat.add_mul, Nat.mul_assoc]
    omega
theorem numB_be (n v : Nat) : numB (be n v) = v % 256 ^ n := by
  induction n with
  | zero => simp [be, numB, Nat.mod_one]
  | succ n ih => rw [be, numB_cons, be_length, ih, dig_toNat, Nat.mod_pow_succ, Nat.mul_comm, Nat.add_comm]
theorem take_list (n v : Nat) (r : List UInt8) (h : okN n = true) : takeT (tx (be n v ++ r)) 0 n = (tx r, 0, ((v % 256 ^ n : Nat) : Int)) := by
  unfold takeT
  have hl := be_length n v
  rw [if_neg (by simp), if_neg (by simp [h]), Int.toNat_natCast, if_neg (by rw [tx_size, List.length_append, hl]; omega)]
  have e1 : (tx (be n v ++ r)).extract n (tx (be n v ++ r)).size = tx r := by
    apply list_ext
    rw [Lib.extract_to_end, tx_toList, tx_toList, List.drop_append_of_le_length (by omega), List.drop_of_length_le (by omega), List.nil_append]
  have e2 : (tx (be n v ++ r)).data.toList.take n = be n v := by
    rw [tx_toList, List.take_append_of_le_length (by omega), List.take_of_length_le (by omega)]
  rw [e1, e2, numB_be]
theorem text_list (s : ByteArray) (r : List UInt8) (hs : s.size ≤ 4096) : textT (tx (txtL s ++ r)) 0 = (tx r, 0, s) := by
  have h := take_list 2 s.size (s.data.toList ++ r) (by decide)
  rw [show ((2 : Nat) : Int) = 2 from rfl, Nat.mod_eq_of_lt (by show s.size < 65536; omega)] at h
  have hsz : s.data.toList.length = s.size := (Lib.size_eq s).symm
  unfold textT
  rw [txtL, List.append_assoc, h]
  dsimp only
  rw [if_neg (by simp), if_neg (by omega), if_neg (by rw [tx_size, List.length_append, hsz]; omega), Int.toNat_natCast]
  have e1 : (tx (s.data.toList ++ r)).extract s.size (tx (s.data.toList ++ r)).size = tx r := by
    apply list_ext
    rw [Lib.extract_to_end, tx_toList, tx_toList, List.drop_append_of_le_length (by omega), List.drop_of_length_le (by omega), List.nil_append]
  have e2 : (tx (s.data.toList ++ r)).extract 0 s.size = s := by
    apply list_ext
    rw [Lib.extract_data, List.drop_zero, Nat.sub_zero, tx_toList, List.take_append_of_le_length (by omega), List.take_of_length_le (by omega)]
  rw [e1, e2]
theorem pod_list {p : P1} (h : p.Fit 4096) (r : List UInt8) : podT (tx (podL p ++ r)) 0 = (tx r, 0, p) := by
  have h1 := text_list p.file (txtL p.name ++ (txtL p.image ++ (be 1 p.r.toNat ++ r))) h.file
  have h2 := text_list p.name (txtL p.image ++ (be 1 p.r.toNat ++ r)) h.name
  have h3 := text_list p.image (be 1 p.r.toNat ++ r) h.image
  have h4 := take_list 1 p.r.toNat r (by decide)
  have hr0 := h.r0
  have hr1 := h.r1
  have e : ((p.r.toNat % 256 ^ 1 : Nat) : Int) = p.r := by
    rw [show 256 ^ 1 = 256 from rfl]; omega
  rw [show ((1 : Nat) : Int) = 1 from rfl, e] at h4
  have := podT_eq h1 h2 h3 h4
  rw [podL]
  simp only [List.append_assoc]
  exact this
theorem pods_list : ∀ (l : List P1) (r : List UInt8), (∀ p ∈ l, p.Fit 4096) → podsT l.length (tx (l.flatMap podL ++ r)) 0 = (tx r, 0, l)
  | [], r, _ => rfl
  | p :: l, r, h => by
    have h1 := pod_list (h p (by simp)) (l.flatMap podL ++ r)
    have h2 := pods_list l r (fun q hq => h q (by simp [hq]))
    rw [List.length_cons, podsT, List.flatMap_cons, List.append_assoc, h1]
    dsimp only
    rw [h2]
theorem dec_enc (seq : Int) (l : List P1) (hs0 : 0 ≤ seq) (hs1 : seq ≤ 4294967295) (h : chk1 l = 0) (hr : ∀ p ∈ l, 0 ≤ p.r ∧ p.r ≤ 255) : decT (tx (enc1L seq l)) = (0, seq, l) := by
  obtain ⟨hl, hf⟩ := chk_fit h hr
  have h1 := take_list 4 seq.toNat (be 2 l.length ++ l.flatMap podL) (by decide)
  have h2 := take_list 2 l.length (l.flatMap podL) (by decide)
  have h3 := pods_list l [] (fun p hp => (hf p hp).mono (by omega))
  rw [show ((4 : Nat) : Int) = 4 from rfl, show ((seq.toNat % 256 ^ 4 : Nat) : Int) = seq from by rw [show 256 ^ 4 = 4294967296 from rfl]; omega] at h1
  rw [show ((2 : Nat) : Int) = 2 from rfl, show ((l.length % 256 ^ 2 : Nat) : Int) = (l.length : Int) from by rw [show 256 ^ 2 = 65536 from rfl]; omega] at h2
  rw [List.append_nil] at h3
  have hD : Dec1T (tx (enc1L seq l)) (tx (be 2 l.length ++ l.flatMap podL)) (tx (l.flatMap podL)) (tx []) 0 0 0 seq (l.length : Int) l := ⟨h1, h2, by rw [Int.toNat_natCast]; exact h3⟩
  rw [decT_eq hD, if_neg (by omega), if_neg (by simp [endT, tx_size]), if_neg (by simp [h])]

/-! ### taken, then put -/
theorem be_numB : ∀ l : List UInt8, be l.length (numB l) = l
  | [] => rfl
  | c :: l => by
    have ih := be_numB l
    have hlt := numB_lt l
    rw [List.length_cons, be, numB_cons]
    have e1 : dig (c.toNat * 256 ^ l.length + numB l) l.length = c := by
      apply UInt8.toNat_inj.1
      rw [dig_toNat, Nat.mul_comm, Nat.mul_add_div (Nat.pow_pos (by omega)), Nat.div_eq_of_lt hlt, Nat.add_zero, Nat.mod_eq_of_lt c.toNat_lt]
    have e2 : ∀ (k m v : Nat), k ≤ m → be k (c.toNat * 256 ^ m + v) = be k v := by
      intro k
      induction k with
      | zero => intros; rfl
      | succ k ihk =>
        intro m v hkm
        rw [be, be, ihk m v (by omega)]
        congr 1
        apply UInt8.toNat_inj.1
        rw [dig_toNat, dig_toNat]
        obtain ⟨d, rfl⟩ : ∃ d, m = d + 1 + k := ⟨m - k - 1, by omega⟩
        have e3 : c.toNat * 256 ^ (d + 1 + k) + v = 256 ^ k * (c.toNat * 256 ^ (d + 1)) + v := by
          rw [Nat.pow_add, ← Nat.mul_assoc, Nat.mul_comm (c.toNat * 256 ^ (d + 1)) (256 ^ k)]
        rw [e3, Nat.mul_add_div (Nat.pow_pos (by omega)), Nat.pow_succ, ← Nat.mul_assoc, Nat.add_comm, Nat.add_mul_mod_self_right]
    rw [e1, e2 l.length l.length (numB l) (Nat.le_refl _), ih]
theorem take_back {s s1 : ByteArray} {e v : Int} {n : Nat} (h : takeT s e n = (s1, 0, v)) : e = 0 ∧ s.data.toList = be n v.toNat ++ s1.data.toList := by
  unfold takeT at h
  split at h
  · rename_i h0; simp at h; exact absurd h.2.1 h0
  split at h
  · simp at h
  split at h
  · simp at h
  · rename_i h0 _ hsz
    simp only [Prod.mk.injEq, Int.toNat_natCast] at h
    obtain ⟨h1, _, h3⟩ := h
    refine ⟨by simpa using h0, ?_⟩
    rw [Int.toNat_natCast] at hsz
    have hl : (s.data.toList.take n).length = n := by rw [List.length_take, ← Lib.size_eq]; omega
    have := be_numB (s.data.toList.take n)
    rw [hl] at this
    rw [← h3, Int.toNat_natCast, this, ← h1, Lib.extract_to_end, List.take_append_drop]
theorem text_back {s s1 x : ByteArray} {e : Int} (h : textT s e = (s1, 0, x)) : e = 0 ∧ s.data.toList = txtL x ++ s1.data.toList := by
  obtain ⟨t, e1, v, ht⟩ : ∃ t e1 v, takeT s e 2 = (t, e1, v) := ⟨_, _, _, rfl⟩
  have hv := take_val s e 2
  rw [show ((2 : Nat) : Int) = 2 from rfl, ht] at hv
  unfold textT at h
  rw [ht] at h
  dsimp only at h hv
  split at h
  · rename_i h0; simp at h; exact absurd h.2.1 h0
  split at h
  · simp at h
  split at h
  · simp at h
  · rename_i h0 h4 hsz
    simp only [Prod.mk.injEq] at h
    obtain ⟨h1, _, h3⟩ := h
    have he1 : e1 = 0 := by simpa using h0
    subst he1
    obtain ⟨h5, h6⟩ := take_back (n := 2) ht
    refine ⟨h5, ?_⟩
    obtain ⟨m, rfl⟩ := Int.eq_ofNat_of_zero_le hv.1
    rw [Int.toNat_natCast] at h1 h3 h6
    have hx : x.size = m := by rw [← h3, ByteArray.size_extract]; omega
    have hxl : x.data.toList = t.data.toList.take m := by rw [← h3, Lib.extract_data, List.drop_zero, Nat.sub_zero]
    have hsl : s1.data.toList = t.data.toList.drop m := by rw [← h1, Lib.extract_to_end]
    rw [h6, txtL, hx, hxl, hsl, List.append_assoc, List.take_append_drop]
theorem pod_back {s s4 : ByteArray} {e : Int} {p : P1} (h : podT s e = (s4, 0, p)) : e = 0 ∧ s.data.toList = podL p ++ s4.data.toList := by
  obtain ⟨s1, s2, s3, s4', x1, x2, x3, e1, e2, e3, e4, v, hT⟩ := pod1T s e
  rw [podT_eq hT.h1 hT.h2 hT.h3 hT.h4] at h
  simp only [Prod.mk.injEq] at h
  obtain ⟨rfl, rfl, rfl⟩ := h
  obtain ⟨rfl, b4⟩ := take_back (n := 1) hT.h4
  obtain ⟨rfl, b3⟩ := text_back hT.h3
  obtain ⟨rfl, b2⟩ := text_back hT.h2
  obtain ⟨h0, b1⟩ := text_back hT.h1
  refine ⟨h0, ?_⟩
  rw [b1, b2, b3, b4, podL]
  simp only [List.append_assoc]
theorem pods_back : ∀ (n : Nat) {s s3 : ByteArray} {e : Int} {L : List P1}, podsT n s e = (s3, 0, L) → e = 0 ∧ s.data.toList = L.flatMap podL ++ s3.data.toList
  | 0, s, s3, e, L, h => by
    simp only [podsT, Prod.mk.injEq] at h
    obtain ⟨rfl, rfl, rfl⟩ := h
    exact ⟨rfl, rfl⟩
  | n + 1, s, s3, e, L, h => by
    obtain ⟨s1, e1, p, hp⟩ : ∃ s1 e1 p, podT s e = (s1, e1, p) := ⟨_, _, _, rfl⟩
    rw [podsT, hp] at h
    simp only [Prod.mk.injEq] at h
    obtain ⟨h1, h2, h3⟩ := h
    obtain ⟨rfl, h4⟩ := pods_back n (s := s1) (e := e1) (s3 := s3) (L := (podsT n s1 e1).2.2) (by rw [← h1, ← h2])
    obtain ⟨h5, h6⟩ := pod_back hp
    refine ⟨h5, ?_⟩
    rw [h6, h4, ← h3, List.flatMap_cons, List.append_assoc]
theorem enc_dec {b : ByteArray} {q : Int} {L : List P1} (h : decT b = (0, q, L)) : tx (enc1L q L) = b ∧ chk1 L = 0 ∧ 0 ≤ q ∧ q ≤ 4294967295 ∧ ∀ p ∈ L, p.Fit 4096 := by
  obtain ⟨s1, s2, s3, e1, e2, e3, q', n, L', hD⟩ := dec1T b
  have hv := hD.vals
  have hfit := decT_fit b
  rw [h] at hfit
  rw [decT_eq hD] at h
  split at h
  · simp at h
  split at h
  · rename_i h1; simp at h; exact absurd h.1 h1
  split at h
  · rename_i h1; simp at h; exact absurd h.1 h1
  · rename_i h0 hE hC
    simp only [Prod.mk.injEq, true_and] at h
    obtain ⟨rfl, rfl⟩ := h
    have hE' : endT s3 e3 = 0 := by simpa using hE
    have he3 : e3 = 0 ∧ s3.size = 0 := by
      unfold endT at hE'
      split at hE'
      · simp at hE'
      · rename_i h2
        exact ⟨hE', Classical.byContradiction fun h3 => h2 ⟨hE', h3⟩⟩
    obtain ⟨rfl, hs3⟩ := he3
    have hs3' : s3.data.toList = [] := List.eq_nil_of_length_eq_zero (by rw [← Lib.size_eq]; exact hs3)
    have hlen := podsT_len n.toNat s2 e2
    rw [hD.h3] at hlen
    dsimp only at hlen
    obtain ⟨rfl, b3⟩ := pods_back _ hD.h3
    obtain ⟨rfl, b2⟩ := take_back (n := 2) hD.h2
    obtain ⟨_, b1⟩ := take_back (n := 4) hD.h1
    refine ⟨?_, by simpa using hC, hv.1.1, hv.1.2, hfit.1⟩
    apply list_ext
    rw [tx_toList, enc1L, b1, b2, b3, hs3', List.append_nil, hlen]
end Go.Proofs.Ytphjhlnjfcfdcaa
