/-
  What was put is taken as it was, and what was taken is put as it was: numbers, texts, states of version 1. No call.
  What was put is taken as it was, and what was taken is put as it was: states of version 2. No call.
  bosunlaw18.CktwoBack, walked.
  States that came in, opened: where their rows lie; how great they are.
  States of version 2 that came in, opened: where their rows lie; how great they are.
  bosunlaw18.CktwoBack returns true, for every state of version 2 and every text: no condition.
-/
import Derived.Test.YtphjhlnjfcfdcaaCat02
import Derived.Lib.IndexBytes
import Derived.Test.YtphjhlnjfcfdcaaCat03
import Derived.Test.YtphjhlnjfcfdcaaCat10
import Derived.Test.YtphjhlnjfcfdcaaCat07
import Derived.Deep.Slices
import Derived.SizedLaws
import Derived.ChangeSame
import Derived.ChangeOld
import Derived.Carry
import Derived.Test.YtphjhlnjfcfdcaaRows
import Derived.WalkKit
import Derived.ProofKit
import Derived.OpenShut
import Derived.ShutString
namespace Go.Proofs.Ytphjhlnjfcfdcaa
open Go.ChangeShapes Go.WideShapes Go.ChangeAt Go.RowKit

/-! ### put, then taken -/
theorem numB_cons (c : UInt8) (l : List UInt8) : numB (c :: l) = c.toNat * 256 ^ l.length + numB l := by
  suffices h : ∀ r : List UInt8, numB (c :: r.reverse) = c.toNat * 256 ^ r.length + numB r.reverse by
    have := h l.reverse; simpa using this
  intro r
  induction r with
  | nil => simp [numB]
  | cons d r ih =>
    have e : c :: (d :: r).reverse = (c :: r.reverse) ++ [d] := by simp
    rw [e, numB_snoc, ih, List.reverse_cons, numB_snoc, List.length_cons, Nat.pow_succ, Nat.add_mul, Nat.mul_assoc]
    omega
theorem numB_be (n v : Nat) : numB (be n v) = v % 256 ^ n := by
  induction n with
  | zero => simp [be, numB, Nat.mod_one]
  | succ n ih => rw [be, numB_cons, be_length, ih, dig_toNat, Nat.mod_pow_succ, Nat.mul_comm, Nat.add_comm]
theorem take_list (n v : Nat) (r : List UInt8) (h : okN n = true) : takeT (tx (be n v ++ r)) 0 n = (tx r, 0, ((v % 256 ^ n : Nat) : Int)) := by
  unfold takeT
  have hl := be_length n v
  rw [if_neg (by simp), if_neg (by simp [h]), Int.toNat_natCast, if_neg (by rw [tx_size, List.length_append, hl]; omega)]
  have e1 : (tx (be n v ++ r)).extract n (tx (be n v ++ r)).size = tx r := by
    apply list_ext
    rw [Lib.extract_to_end, tx_toList, tx_toList, List.drop_append_of_le_length (by omega), List.drop_of_length_le (by omega), List.nil_append]
  have e2 : (tx (be n v ++ r)).data.toList.take n = be n v := by
    rw [tx_toList, List.take_append_of_le_length (by omega), List.take_of_length_le (by omega)]
  rw [e1, e2, numB_be]
theorem text_list (s : ByteArray) (r : List UInt8) (hs : s.size ≤ 4096) : textT (tx (txtL s ++ r)) 0 = (tx r, 0, s) := by
  have h := take_list 2 s.size (s.data.toList ++ r) (by decide)
  rw [show ((2 : Nat) : Int) = 2 from rfl, Nat.mod_eq_of_lt (by show s.size < 65536; omega)] at h
  have hsz : s.data.toList.length = s.size := (Lib.size_eq s).symm
  unfold textT
  rw [txtL, List.append_assoc, h]
  dsimp only
  rw [if_neg (by simp), if_neg (by omega), if_neg (by rw [tx_size, List.length_append, hsz]; omega), Int.toNat_natCast]
  have e1 : (tx (s.data.toList ++ r)).extract s.size (tx (s.data.toList ++ r)).size = tx r := by
    apply list_ext
    rw [Lib.extract_to_end, tx_toList, tx_toList, List.drop_append_of_le_length (by omega), List.drop_of_length_le (by omega), List.nil_append]
  have e2 : (tx (s.data.toList ++ r)).extract 0 s.size = s := by
    apply list_ext
    rw [Lib.extract_data, List.drop_zero, Nat.sub_zero, tx_toList, List.take_append_of_le_length (by omega), List.take_of_length_le (by omega)]
  rw [e1, e2]
theorem pod_list {p : P1} (h : p.Fit 4096) (r : List UInt8) : podT (tx (podL p ++ r)) 0 = (tx r, 0, p) := by
  have h1 := text_list p.file (txtL p.name ++ (txtL p.image ++ (be 1 p.r.toNat ++ r))) h.file
  have h2 := text_list p.name (txtL p.image ++ (be 1 p.r.toNat ++ r)) h.name
  have h3 := text_list p.image (be 1 p.r.toNat ++ r) h.image
  have h4 := take_list 1 p.r.toNat r (by decide)
  have hr0 := h.r0
  have hr1 := h.r1
  have e : ((p.r.toNat % 256 ^ 1 : Nat) : Int) = p.r := by
    rw [show 256 ^ 1 = 256 from rfl]; omega
  rw [show ((1 : Nat) : Int) = 1 from rfl, e] at h4
  have := podT_eq h1 h2 h3 h4
  rw [podL]
  simp only [List.append_assoc]
  exact this
theorem pods_list : ∀ (l : List P1) (r : List UInt8), (∀ p ∈ l, p.Fit 4096) → podsT l.length (tx (l.flatMap podL ++ r)) 0 = (tx r, 0, l)
  | [], r, _ => rfl
  | p :: l, r, h => by
    have h1 := pod_list (h p (by simp)) (l.flatMap podL ++ r)
    have h2 := pods_list l r (fun q hq => h q (by simp [hq]))
    rw [List.length_cons, podsT, List.flatMap_cons, List.append_assoc, h1]
    dsimp only
    rw [h2]
theorem dec_enc (seq : Int) (l : List P1) (hs0 : 0 ≤ seq) (hs1 : seq ≤ 4294967295) (h : chk1 l = 0) (hr : ∀ p ∈ l, 0 ≤ p.r ∧ p.r ≤ 255) : decT (tx (enc1L seq l)) = (0, seq, l) := by
  obtain ⟨hl, hf⟩ := chk_fit h hr
  have h1 := take_list 4 seq.toNat (be 2 l.length ++ l.flatMap podL) (by decide)
  have h2 := take_list 2 l.length (l.flatMap podL) (by decide)
  have h3 := pods_list l [] (fun p hp => (hf p hp).mono (by omega))
  rw [show ((4 : Nat) : Int) = 4 from rfl, show ((seq.toNat % 256 ^ 4 : Nat) : Int) = seq from by rw [show 256 ^ 4 = 4294967296 from rfl]; omega] at h1
  rw [show ((2 : Nat) : Int) = 2 from rfl, show ((l.length % 256 ^ 2 : Nat) : Int) = (l.length : Int) from by rw [show 256 ^ 2 = 65536 from rfl]; omega] at h2
  rw [List.append_nil] at h3
  have hD : Dec1T (tx (enc1L seq l)) (tx (be 2 l.length ++ l.flatMap podL)) (tx (l.flatMap podL)) (tx []) 0 0 0 seq (l.length : Int) l := ⟨h1, h2, by rw [Int.toNat_natCast]; exact h3⟩
  rw [decT_eq hD, if_neg (by omega), if_neg (by simp [endT, tx_size]), if_neg (by simp [h])]

/-! ### taken, then put -/
theorem be_numB : ∀ l : List UInt8, be l.length (numB l) = l
  | [] => rfl
  | c :: l => by
    have ih := be_numB l
    have hlt := numB_lt l
    rw [List.length_cons, be, numB_cons]
    have e1 : dig (c.toNat * 256 ^ l.length + numB l) l.length = c := by
      apply UInt8.toNat_inj.1
      rw [dig_toNat, Nat.mul_comm, Nat.mul_add_div (Nat.pow_pos (by omega)), Nat.div_eq_of_lt hlt, Nat.add_zero, Nat.mod_eq_of_lt c.toNat_lt]
    have e2 : ∀ (k m v : Nat), k ≤ m → be k (c.toNat * 256 ^ m + v) = be k v := by
      intro k
      induction k with
      | zero => intros; rfl
      | succ k ihk =>
        intro m v hkm
        rw [be, be, ihk m v (by omega)]
        congr 1
        apply UInt8.toNat_inj.1
        rw [dig_toNat, dig_toNat]
        obtain ⟨d, rfl⟩ : ∃ d, m = d + 1 + k := ⟨m - k - 1, by omega⟩
        have e3 : c.toNat * 256 ^ (d + 1 + k) + v = 256 ^ k * (c.toNat * 256 ^ (d + 1)) + v := by
          rw [Nat.pow_add, ← Nat.mul_assoc, Nat.mul_comm (c.toNat * 256 ^ (d + 1)) (256 ^ k)]
        rw [e3, Nat.mul_add_div (Nat.pow_pos (by omega)), Nat.pow_succ, ← Nat.mul_assoc, Nat.add_comm, Nat.add_mul_mod_self_right]
    rw [e1, e2 l.length l.length (numB l) (Nat.le_refl _), ih]
theorem take_back {s s1 : ByteArray} {e v : Int} {n : Nat} (h : takeT s e n = (s1, 0, v)) : e = 0 ∧ s.data.toList = be n v.toNat ++ s1.data.toList := by
  unfold takeT at h
  split at h
  · rename_i h0; simp at h; exact absurd h.2.1 h0
  split at h
  · simp at h
  split at h
  · simp at h
  · rename_i h0 _ hsz
    simp only [Prod.mk.injEq, Int.toNat_natCast] at h
    obtain ⟨h1, _, h3⟩ := h
    refine ⟨by simpa using h0, ?_⟩
    rw [Int.toNat_natCast] at hsz
    have hl : (s.data.toList.take n).length = n := by rw [List.length_take, ← Lib.size_eq]; omega
    have := be_numB (s.data.toList.take n)
    rw [hl] at this
    rw [← h3, Int.toNat_natCast, this, ← h1, Lib.extract_to_end, List.take_append_drop]
theorem text_back {s s1 x : ByteArray} {e : Int} (h : textT s e = (s1, 0, x)) : e = 0 ∧ s.data.toList = txtL x ++ s1.data.toList := by
  obtain ⟨t, e1, v, ht⟩ : ∃ t e1 v, takeT s e 2 = (t, e1, v) := ⟨_, _, _, rfl⟩
  have hv := take_val s e 2
  rw [show ((2 : Nat) : Int) = 2 from rfl, ht] at hv
  unfold textT at h
  rw [ht] at h
  dsimp only at h hv
  split at h
  · rename_i h0; simp at h; exact absurd h.2.1 h0
  split at h
  · simp at h
  split at h
  · simp at h
  · rename_i h0 h4 hsz
    simp only [Prod.mk.injEq] at h
    obtain ⟨h1, _, h3⟩ := h
    have he1 : e1 = 0 := by simpa using h0
    subst he1
    obtain ⟨h5, h6⟩ := take_back (n := 2) ht
    refine ⟨h5, ?_⟩
    obtain ⟨m, rfl⟩ := Int.eq_ofNat_of_zero_le hv.1
    rw [Int.toNat_natCast] at h1 h3 h6
    have hx : x.size = m := by rw [← h3, ByteArray.size_extract]; omega
    have hxl : x.data.toList = t.data.toList.take m := by rw [← h3, Lib.extract_data, List.drop_zero, Nat.sub_zero]
    have hsl : s1.data.toList = t.data.toList.drop m := by rw [← h1, Lib.extract_to_end]
    rw [h6, txtL, hx, hxl, hsl, List.append_assoc, List.take_append_drop]
theorem pod_back {s s4 : ByteArray} {e : Int} {p : P1} (h : podT s e = (s4, 0, p)) : e = 0 ∧ s.data.toList = podL p ++ s4.data.toList := by
  obtain ⟨s1, s2, s3, s4', x1, x2, x3, e1, e2, e3, e4, v, hT⟩ := pod1T s e
  rw [podT_eq hT.h1 hT.h2 hT.h3 hT.h4] at h
  simp only [Prod.mk.injEq] at h
  obtain ⟨rfl, rfl, rfl⟩ := h
  obtain ⟨rfl, b4⟩ := take_back (n := 1) hT.h4
  obtain ⟨rfl, b3⟩ := text_back hT.h3
  obtain ⟨rfl, b2⟩ := text_back hT.h2
  obtain ⟨h0, b1⟩ := text_back hT.h1
  refine ⟨h0, ?_⟩
  rw [b1, b2, b3, b4, podL]
  simp only [List.append_assoc]
theorem pods_back : ∀ (n : Nat) {s s3 : ByteArray} {e : Int} {L : List P1}, podsT n s e = (s3, 0, L) → e = 0 ∧ s.data.toList = L.flatMap podL ++ s3.data.toList
  | 0, s, s3, e, L, h => by
    simp only [podsT, Prod.mk.injEq] at h
    obtain ⟨rfl, rfl, rfl⟩ := h
    exact ⟨rfl, rfl⟩
  | n + 1, s, s3, e, L, h => by
    obtain ⟨s1, e1, p, hp⟩ : ∃ s1 e1 p, podT s e = (s1, e1, p) := ⟨_, _, _, rfl⟩
    rw [podsT, hp] at h
    simp only [Prod.mk.injEq] at h
    obtain ⟨h1, h2, h3⟩ := h
    obtain ⟨rfl, h4⟩ := pods_back n (s := s1) (e := e1) (s3 := s3) (L := (podsT n s1 e1).2.2) (by rw [← h1, ← h2])
    obtain ⟨h5, h6⟩ := pod_back hp
    refine ⟨h5, ?_⟩
    rw [h6, h4, ← h3, List.flatMap_cons, List.append_assoc]
theorem enc_dec {b : ByteArray} {q : Int} {L : List P1} (h : decT b = (0, q, L)) : tx (enc1L q L) = b ∧ chk1 L = 0 ∧ 0 ≤ q ∧ q ≤ 4294967295 ∧ ∀ p ∈ L, p.Fit 4096 := by
  obtain ⟨s1, s2, s3, e1, e2, e3, q', n, L', hD⟩ := dec1T b
  have hv := hD.vals
  have hfit := decT_fit b
  rw [h] at hfit
  rw [decT_eq hD] at h
  split at h
  · simp at h
  split at h
  · rename_i h1; simp at h; exact absurd h.1 h1
  split at h
  · rename_i h1; simp at h; exact absurd h.1 h1
  · rename_i h0 hE hC
    simp only [Prod.mk.injEq, true_and] at h
    obtain ⟨rfl, rfl⟩ := h
    have hE' : endT s3 e3 = 0 := by simpa using hE
    have he3 : e3 = 0 ∧ s3.size = 0 := by
      unfold endT at hE'
      split at hE'
      · simp at hE'
      · rename_i h2
        exact ⟨hE', Classical.byContradiction fun h3 => h2 ⟨hE', h3⟩⟩
    obtain ⟨rfl, hs3⟩ := he3
    have hs3' : s3.data.toList = [] := List.eq_nil_of_length_eq_zero (by rw [← Lib.size_eq]; exact hs3)
    have hlen := podsT_len n.toNat s2 e2
    rw [hD.h3] at hlen
    dsimp only at hlen
    obtain ⟨rfl, b3⟩ := pods_back _ hD.h3
    obtain ⟨rfl, b2⟩ := take_back (n := 2) hD.h2
    obtain ⟨_, b1⟩ := take_back (n := 4) hD.h1
    refine ⟨?_, by simpa using hC, hv.1.1, hv.1.2, hfit.1⟩
    apply list_ext
    rw [tx_toList, enc1L, b1, b2, b3, hs3', List.append_nil, hlen]
end Go.Proofs.Ytphjhlnjfcfdcaa
namespace Go.Proofs.Ytphjhlnjfcfdcaa
open Go.ChangeShapes Go.WideShapes Go.ChangeAt Go.RowKit

/-! ### put, then taken -/
theorem upT_list (n v : Nat) (most : Int) (r : List UInt8) (h : okN n = true) (hv : v < 256 ^ n) (hm : (v : Int) ≤ most) : upT (tx (be n v ++ r)) 0 n most = (tx r, 0, (v : Int)) := by
  have h1 := take_list n v r h
  rw [Nat.mod_eq_of_lt hv] at h1
  unfold upT
  rw [h1]
  rw [if_neg (by show ¬ most < (v : Int); omega)]
section
variable {α : Type} {f : ByteArray → Int → ByteArray × Int × α} {g : α → List UInt8}
theorem many_list : ∀ (l : List α) (r : List UInt8), (∀ x ∈ l, ∀ r, f (tx (g x ++ r)) 0 = (tx r, 0, x)) → manyT f l.length (tx (l.flatMap g ++ r)) 0 = (tx r, 0, l)
  | [], r, _ => rfl
  | x :: l, r, h => by
    have h1 := h x (by simp) (l.flatMap g ++ r)
    have h2 := many_list l r (fun q hq => h q (by simp [hq]))
    rw [List.length_cons, manyT, List.flatMap_cons, List.append_assoc, h1]
    dsimp only
    rw [h2]
theorem many_back (hb : ∀ {s s1 : ByteArray} {e : Int} {x : α}, f s e = (s1, 0, x) → e = 0 ∧ s.data.toList = g x ++ s1.data.toList) :
    ∀ (n : Nat) {s s3 : ByteArray} {e : Int} {L : List α}, manyT f n s e = (s3, 0, L) → e = 0 ∧ s.data.toList = L.flatMap g ++ s3.data.toList
  | 0, s, s3, e, L, h => by
    simp only [manyT, Prod.mk.injEq] at h
    obtain ⟨rfl, rfl, rfl⟩ := h
    exact ⟨rfl, rfl⟩
  | n + 1, s, s3, e, L, h => by
    obtain ⟨s1, e1, p, hp⟩ : ∃ s1 e1 p, f s e = (s1, e1, p) := ⟨_, _, _, rfl⟩
    rw [manyT, hp] at h
    simp only [Prod.mk.injEq] at h
    obtain ⟨h1, h2, h3⟩ := h
    obtain ⟨rfl, h4⟩ := many_back hb n (s := s1) (e := e1) (s3 := s3) (L := (manyT f n s1 e1).2.2) (by rw [← h1, ← h2])
    obtain ⟨h5, h6⟩ := hb hp
    refine ⟨h5, ?_⟩
    rw [h6, h4, ← h3, List.flatMap_cons, List.append_assoc]
end
theorem cont_list {c : C2} (h : c.name.size ≤ 4096 ∧ c.image.size ≤ 4096) (r : List UInt8) : contT (tx (cL c ++ r)) 0 = (tx r, 0, c) := by
  have h1 := text_list c.name (txtL c.image ++ r) h.1
  have h2 := text_list c.image r h.2
  have := contT_eq h1 h2
  rw [cL, List.append_assoc]
  exact this
theorem pod2_list {p : P2} (h : p.Fit 4096) (hl : p.cs.length ≤ 16) (r : List UInt8) : pod2T (tx (pod2L p ++ r)) 0 = (tx r, 0, p) := by
  have h1 := text_list p.file (txtL p.name ++ (txtL p.ns ++ (be 1 p.r.toNat ++ (be 2 p.g.toNat ++ (be 1 p.cs.length ++ (p.cs.flatMap cL ++ r)))))) h.file
  have h2 := text_list p.name (txtL p.ns ++ (be 1 p.r.toNat ++ (be 2 p.g.toNat ++ (be 1 p.cs.length ++ (p.cs.flatMap cL ++ r))))) h.name
  have h3 := text_list p.ns (be 1 p.r.toNat ++ (be 2 p.g.toNat ++ (be 1 p.cs.length ++ (p.cs.flatMap cL ++ r)))) h.ns
  have h4 := take_list 1 p.r.toNat (be 2 p.g.toNat ++ (be 1 p.cs.length ++ (p.cs.flatMap cL ++ r))) (by decide)
  have h5 := take_list 2 p.g.toNat (be 1 p.cs.length ++ (p.cs.flatMap cL ++ r)) (by decide)
  have h6 := upT_list 1 p.cs.length 16 (p.cs.flatMap cL ++ r) (by decide) (by rw [show 256 ^ 1 = 256 from rfl]; omega) (by omega)
  have h7 := many_list (f := contT) (g := cL) p.cs r (fun c hc r => cont_list (h.cs c hc) r)
  have hr0 := h.r0
  have hr1 := h.r1
  have hg0 := h.g0
  have hg1 := h.g1
  rw [show ((1 : Nat) : Int) = 1 from rfl, show ((p.r.toNat % 256 ^ 1 : Nat) : Int) = p.r from by rw [show 256 ^ 1 = 256 from rfl]; omega] at h4
  rw [show ((2 : Nat) : Int) = 2 from rfl, show ((p.g.toNat % 256 ^ 2 : Nat) : Int) = p.g from by rw [show 256 ^ 2 = 65536 from rfl]; omega] at h5
  rw [show ((1 : Nat) : Int) = 1 from rfl] at h6
  have hP : Pod2T _ 0 _ _ _ _ _ _ (tx r) p.file p.name p.ns 0 0 0 0 0 0 0 p.r p.g (p.cs.length : Int) p.cs := ⟨h1, h2, h3, h4, h5, h6, by rw [Int.toNat_natCast]; exact h7⟩
  have := pod2T_eq hP
  rw [pod2L]
  simp only [List.append_assoc]
  exact this
theorem dec_enc2 (seq : Int) (l : List P2) (hs0 : 0 ≤ seq) (hs1 : seq ≤ 18446744073709551615) (h : chk2 l = 0) (hr : ∀ p ∈ l, p.Num) : dec2 (tx (enc2L seq l)) = (0, seq, l) := by
  obtain ⟨hl, hf⟩ := chk2_fit h hr
  have h1 := take_list 8 seq.toNat (be 2 l.length ++ l.flatMap pod2L) (by decide)
  have h2 := upT_list 2 l.length 1024 (l.flatMap pod2L) (by decide) (by rw [show 256 ^ 2 = 65536 from rfl]; omega) (by omega)
  have h3 := many_list (f := pod2T) (g := pod2L) l [] (fun p hp r => pod2_list ((hf p hp).1.mono (by omega)) (hf p hp).2 r)
  rw [show ((8 : Nat) : Int) = 8 from rfl, show ((seq.toNat % 256 ^ 8 : Nat) : Int) = seq from by rw [show 256 ^ 8 = 18446744073709551616 from rfl]; omega] at h1
  rw [show ((2 : Nat) : Int) = 2 from rfl] at h2
  rw [List.append_nil] at h3
  have hD : Dec2T (tx (enc2L seq l)) (tx (be 2 l.length ++ l.flatMap pod2L)) (tx (l.flatMap pod2L)) (tx []) 0 0 0 seq (l.length : Int) l := ⟨h1, h2, by rw [Int.toNat_natCast]; exact h3⟩
  rw [dec2_eq hD, dec2E, if_neg (by simp [endT, tx_size]), if_neg (by simp [h])]

/-! ### taken, then put -/
theorem upT_back {s s1 : ByteArray} {e v most : Int} {n : Nat} (h : upT s e n most = (s1, 0, v)) : e = 0 ∧ s.data.toList = be n v.toNat ++ s1.data.toList := by
  unfold upT at h
  split at h
  · simp at h
  · exact take_back h
theorem cont_back {s s1 : ByteArray} {e : Int} {c : C2} (h : contT s e = (s1, 0, c)) : e = 0 ∧ s.data.toList = cL c ++ s1.data.toList := by
  obtain ⟨t1, d1, x1, h1⟩ : ∃ t1 d1 x1, textT s e = (t1, d1, x1) := ⟨_, _, _, rfl⟩
  obtain ⟨t2, d2, x2, h2⟩ : ∃ t2 d2 x2, textT t1 d1 = (t2, d2, x2) := ⟨_, _, _, rfl⟩
  rw [contT_eq h1 h2] at h
  simp only [Prod.mk.injEq] at h
  obtain ⟨rfl, rfl, rfl⟩ := h
  obtain ⟨rfl, b2⟩ := text_back h2
  obtain ⟨h0, b1⟩ := text_back h1
  refine ⟨h0, ?_⟩
  rw [b1, b2, cL]
  simp only [List.append_assoc]
theorem pod2_back {s s7 : ByteArray} {e : Int} {p : P2} (h : pod2T s e = (s7, 0, p)) : e = 0 ∧ s.data.toList = pod2L p ++ s7.data.toList := by
  obtain ⟨s1, s2, s3, s4, s5, s6, t7, x1, x2, x3, e1, e2, e3, e4, e5, e6, e7, v, g, n, L, hT⟩ := pod2T_ex s e
  have hlen := hT.len
  rw [pod2T_eq hT] at h
  simp only [Prod.mk.injEq] at h
  obtain ⟨rfl, rfl, rfl⟩ := h
  obtain ⟨rfl, b7⟩ := many_back (fun h => cont_back h) _ hT.h7
  obtain ⟨rfl, b6⟩ := upT_back (n := 1) hT.h6
  obtain ⟨rfl, b5⟩ := take_back (n := 2) hT.h5
  obtain ⟨rfl, b4⟩ := take_back (n := 1) hT.h4
  obtain ⟨rfl, b3⟩ := text_back hT.h3
  obtain ⟨rfl, b2⟩ := text_back hT.h2
  obtain ⟨h0, b1⟩ := text_back hT.h1
  refine ⟨h0, ?_⟩
  rw [b1, b2, b3, b4, b5, b6, b7, pod2L]
  dsimp only
  rw [hlen]
  simp only [List.append_assoc]
theorem enc_dec2 {b : ByteArray} {q : Int} {L : List P2} (h : dec2 b = (0, q, L)) : tx (enc2L q L) = b ∧ chk2 L = 0 ∧ 0 ≤ q ∧ q ≤ 18446744073709551615 ∧ ∀ p ∈ L, p.Fit 4096 := by
  obtain ⟨s1, s2, s3, e1, e2, e3, q', n, L', hD⟩ := dec2T_ex b
  have hv := hD.vals
  have hfit := dec2_fit b
  have hlen := hD.fit.2
  rw [h] at hfit
  rw [dec2_eq hD, dec2E] at h
  split at h
  · rename_i h1; simp at h; exact absurd h.1 h1
  split at h
  · rename_i h1; simp at h; exact absurd h.1 h1
  · rename_i hE hC
    simp only [Prod.mk.injEq, true_and] at h
    obtain ⟨rfl, rfl⟩ := h
    have hE' : endT s3 e3 = 0 := by simpa using hE
    have he3 : e3 = 0 ∧ s3.size = 0 := by
      unfold endT at hE'
      split at hE'
      · simp at hE'
      · rename_i h2
        exact ⟨hE', Classical.byContradiction fun h3 => h2 ⟨hE', h3⟩⟩
    obtain ⟨rfl, hs3⟩ := he3
    have hs3' : s3.data.toList = [] := List.eq_nil_of_length_eq_zero (by rw [← Lib.size_eq]; exact hs3)
    obtain ⟨rfl, b3⟩ := many_back (fun h => pod2_back h) _ hD.h3
    obtain ⟨rfl, b2⟩ := upT_back (n := 2) hD.h2
    obtain ⟨_, b1⟩ := take_back (n := 8) hD.h1
    refine ⟨?_, by simpa using hC, hv.1.1, hv.1.2, fun p hp => (hfit.1 p hp).1⟩
    apply list_ext
    rw [tx_toList, enc2L, b1, b2, b3, hs3', List.append_nil, hlen]
theorem dec2_bad (b : ByteArray) (h : (dec2 b).1 ≠ 0) : (dec2 b).2.1 = 0 ∧ (dec2 b).2.2 = [] := by
  obtain ⟨s1, s2, s3, e1, e2, e3, q, n, L, hD⟩ := dec2T_ex b
  rw [dec2_eq hD, dec2E] at h ⊢
  split
  · exact ⟨rfl, rfl⟩
  split
  · exact ⟨rfl, rfl⟩
  · rename_i h1 h2
    rw [if_neg h1, if_neg h2] at h
    exact absurd rfl h
end Go.Proofs.Ytphjhlnjfcfdcaa
namespace Go.Proofs.Ytphjhlnjfcfdcaa
open Go.ChangeShapes Go.WideShapes Go.ChangeAt Go.RowKit
set_option maxRecDepth 100000

set_option maxHeartbeats 8000000 in
theorem back2_any (seq : Int) (a : Option Addr) (l : List P2) (c : Nat) (b : ByteArray) (w : World) (h : AtL l w a) (hf : ∀ p ∈ l, p.Fit 140737488355328) (hl : l.length ≤ maxLen) (hcl : ∀ p ∈ l, p.cs.length ≤ maxLen) (hs0 : 0 ≤ seq) (hs1 : seq ≤ 18446744073709551615) (hb : b.size ≤ maxLen) :
    Calls Try.prog 8 #[st2 seq a l.length c, .string b] w fun e w' => e = .returned (.bool true) ∧ Fresh w w' := by
  have HAW := Lib.hid (fun W => awake18_any W)
  have HF0 := Lib.hid ((Fresh.refl w).alloc (.cells #[.int .u64 seq, .slice a l.length c] 49))
  have HA := Lib.hid (at_new w (.cells #[.int .u64 seq, .slice a l.length c] 49))
  have HROW := Lib.hid (h.move HF0.out)
  have HSM := Lib.hid (small2_at seq a l c _ HROW.out hf hl hcl)
  have hnum : ∀ p ∈ l, p.Num := fun p hp => ⟨(hf p hp).r0, (hf p hp).r1, (hf p hp).g0, (hf p hp).g1⟩
  have hfm : ∀ p ∈ l, p.Fit maxLen := fun p hp => (hf p hp).mono (by unfold maxLen; omega)
  have hdb := fun W => decode2_at b W hb
  have hbad := dec2_bad b
  have hgood := fun q L => @enc_dec2 b q L
  unfold DecAt at hdb
  unfold maxLen at hb
  obtain ⟨C, q, L, hR⟩ : ∃ C q L, dec2 b = (C, q, L) := ⟨_, _, _, rfl⟩
  rw [hR] at hdb hbad
  dsimp only at hdb hbad
  have HDB := Lib.hid hdb
  have HBAD : Hid (C ≠ 0 → q = 0 ∧ L = []) := hbad
  have HGOOD : Hid (C = 0 → ∀ a c W, AtL L W a → Calls Try.prog 26 #[.agg #[.int .u64 q, .slice a L.length c]] W fun e w' => e = .returned (.tuple #[.string b, .int .i64 0]) ∧ Fresh W w') := fun hC a c W hrow => by
    obtain ⟨g1, g2, g3, g4, g5⟩ := hgood q L (by rw [hR, hC])
    have := encode2_at_ok q a L c W hrow (fun p hp => (g5 p hp).mono (by unfold maxLen; omega)) g2 g3 g4
    rw [g1] at this
    exact this
  clear hdb hbad hgood hR
  dsimp only [st2] at *
  cases hsm : smB 0 l with
  | false =>
    rw [hsm] at HSM
    clear hsm hf h hfm HDB HBAD HGOOD
    go_enter Try.func8, Try.ntmps8
    go_wp2_with (fail)
    refine HSM.out.mono ?_
    rintro e w1 ⟨rfl, hf⟩
    have HF1 := Lib.hid (HF0.out.trans hf)
    clear hf
    go_wp2_with (fail)
    refine (HAW.out _).mono ?_
    rintro e w2 ⟨rfl, hf⟩
    have HF2 := Lib.hid (HF1.out.trans hf)
    clear hf
    go_wp2
    go_ret
    exact ⟨rfl, HF2.out⟩
  | true =>
    rw [hsm] at HSM
    by_cases hbig : 20000 < b.size
    · clear hsm hf h hfm HDB HBAD HGOOD
      go_enter Try.func8, Try.ntmps8
      go_wp2_with (fail)
      refine HSM.out.mono ?_
      rintro e w1 ⟨rfl, hf⟩
      have HF1 := Lib.hid (HF0.out.trans hf)
      clear hf
      go_wp2_with (fail)
      all_goals try (exfalso; omega)
      refine (HAW.out _).mono ?_
      rintro e w2 ⟨rfl, hf⟩
      have HF2 := Lib.hid (HF1.out.trans hf)
      clear hf
      go_wp2
      go_ret
      exact ⟨rfl, HF2.out⟩
    clear hsm
    by_cases hck : chk2 l = 0
    case neg =>
      have HEN := Lib.hid (fun W (f : Fresh w W) => encode2_at_bad seq a l c W (h.move f) hfm hck)
      have e0 : (chk2 l == 0) = false := by rw [beq_eq_false_iff_ne]; exact hck
      dsimp only [st2] at HEN
      generalize chk2 l = K at *
      clear hck h hf hfm
      go_enter Try.func8, Try.ntmps8
      go_wp2_with (fail)
      refine HSM.out.mono ?_
      rintro e w1 ⟨rfl, hf⟩
      have HF1 := Lib.hid (HF0.out.trans hf)
      obtain ⟨q0, q1, _⟩ := st2_box (hf.at HA.out)
      clear hf
      go_wp2_with (fail)
      all_goals try (exfalso; omega)
      refine (HEN.out _ HF1.out).mono ?_
      rintro e w2 ⟨rfl, hf⟩
      have HFX := Lib.hid (HF1.out.trans hf)
      clear hf q0 q1
      go_wp2_with (fail)
      all_goals try (exfalso; omega)
      refine (HDB.out _).mono ?_
      rintro e w5 ⟨ab, cb, rfl, hrow, hf⟩
      have HF5 := Lib.hid (HFX.out.trans hf)
      have HROW5 := Lib.hid hrow
      clear hrow hf HFX
      dsimp only [st2]
      by_cases hC : C = 0
      case neg =>
        have e0 : (C != 0) = true := by simpa using hC
        obtain ⟨rfl, rfl⟩ := HBAD.out hC
        clear HBAD HGOOD
        have HB5 := Lib.hid (at_new w5 (.cells #[.int .u64 0, .slice ab ([] : List P2).length cb] 49))
        have HF6 := Lib.hid (HF5.out.alloc (.cells #[.int .u64 0, .slice ab ([] : List P2).length cb] 49))
        go_wp2_with (fail)
        refine (HAW.out _).mono ?_
        rintro e w6 ⟨rfl, hf⟩
        obtain ⟨q0, q1, _⟩ := st2_box (hf.at HB5.out)
        have HF7 := Lib.hid (HF6.out.trans hf)
        clear hf
        go_wp2
        go_ret
        exact ⟨rfl, HF7.out⟩
      subst hC
      have HEB := Lib.hid (HGOOD.out rfl)
      clear HBAD HGOOD
      have HB5 := Lib.hid (at_new w5 (.cells #[.int .u64 q, .slice ab L.length cb] 49))
      have HF6 := Lib.hid (HF5.out.alloc (.cells #[.int .u64 q, .slice ab L.length cb] 49))
      have HENC := Lib.hid (HEB.out ab cb _ (HROW5.out.move ((Fresh.refl w5).alloc (.cells #[.int .u64 q, .slice ab L.length cb] 49))))
      clear HEB HROW5 HF5
      go_wp2_with (fail)
      refine HENC.out.mono ?_
      rintro e w6 ⟨rfl, hf⟩
      have HF7 := Lib.hid (HF6.out.trans hf)
      clear hf
      go_wp2_with (fail)
      refine (HAW.out _).mono ?_
      rintro e w7 ⟨rfl, hf⟩
      have HF8 := Lib.hid (HF7.out.trans hf)
      clear hf
      go_wp2
      go_ret
      exact ⟨rfl, HF8.out⟩
    case pos =>
      have HEN := Lib.hid (fun W (f : Fresh w W) => encode2_at_ok seq a l c W (h.move f) hfm hck hs0 hs1)
      have hde := dec_enc2 seq l hs0 hs1 hck hnum
      have henl : (tx (enc2L seq l)).size ≤ maxLen := by
        obtain ⟨h1, h2⟩ := chk2_fit hck hnum
        have h3 := flat_le pod2L 9000 l (fun p hp => pod2L_len (h2 p hp).1 (h2 p hp).2)
        have h4 : l.length * 9000 ≤ 1024 * 9000 := Nat.mul_le_mul h1 (Nat.le_refl _)
        rw [tx_size, enc2L]
        simp only [List.length_append, be_length]
        unfold maxLen
        omega
      have hll : l.length ≤ 1024 := (chk2_fit hck hnum).1
      have hc16 : ∀ p ∈ l, p.cs.length ≤ 4000000 := fun p hp => Nat.le_trans ((chk2_fit hck hnum).2 p hp).2 (by decide)
      have hdx := fun W => decode2_at (tx (enc2L seq l)) W henl
      unfold DecAt at hdx
      rw [hde] at hdx
      have HDX := Lib.hid hdx
      dsimp only [st2] at HEN HDX
      have HOF1 : Hid (∀ W a c, AtL l W a → Calls Try.prog 24 #[.agg #[.int .u64 seq, .slice a l.length c]] W fun r w' => ∃ a c, r = .returned (.agg #[.int .u64 seq, .slice a l.length c]) ∧ AtL l w' a ∧ Fresh W w') := fun W a c hr => of2_at seq a l c W hr (by omega) hc16
      have HSAME : Hid (∀ W a1 c1 a2 c2, AtL l W a1 → AtL l W a2 → Calls Try.prog 30 #[.agg #[.int .u64 seq, .slice a1 l.length c1], .agg #[.int .u64 seq, .slice a2 l.length c2]] W fun e w' => e = .returned (.bool true) ∧ Fresh W w') := fun W a1 c1 a2 c2 h1 h2 => by
        have := rsame2_at seq seq l l a1 a2 c1 c2 W h1 h2 (by omega) hc16
        rw [same2_self] at this
        exact this
      generalize tx (enc2L seq l) = X at *
      clear hck hfm hde henl hdx hf hnum
      go_enter Try.func8, Try.ntmps8
      go_wp2_with (fail)
      refine HSM.out.mono ?_
      rintro e w1 ⟨rfl, hf⟩
      have HF1 := Lib.hid (HF0.out.trans hf)
      have HA1 := Lib.hid (hf.at HA.out)
      obtain ⟨q0, q1, _⟩ := st2_box HA1.out
      clear hf
      go_wp2_with (fail)
      all_goals try (exfalso; omega)
      refine (HEN.out _ HF1.out).mono ?_
      rintro e w2 ⟨rfl, hf⟩
      have HF2 := Lib.hid (HF1.out.trans hf)
      have HA2 := Lib.hid (hf.at HA1.out)
      clear hf q0 q1
      go_wp2_with (fail)
      refine (HDX.out _).mono ?_
      rintro e w3 ⟨a1, c1, rfl, hrow, hf⟩
      have HB := Lib.hid (at_new w3 (.cells #[.int .u64 seq, .slice a1 l.length c1] 49))
      have HA3 := Lib.hid (at_alloc (p := .cells #[.int .u64 seq, .slice a1 l.length c1] 49) (hf.at HA2.out))
      have HF3 := Lib.hid ((HF2.out.trans hf).alloc (.cells #[.int .u64 seq, .slice a1 l.length c1] 49))
      have HR1 := Lib.hid (hrow.move ((Fresh.refl w3).alloc (.cells #[.int .u64 seq, .slice a1 l.length c1] 49)))
      have HR0 := Lib.hid (h.move HF3.out)
      clear hrow hf HF2 HA2 HA1 HF1 h
      go_wp2_with (fail)
      generalize w3.alloc (.cells #[.int .u64 seq, .slice a1 l.length c1] 49) = V at *
      obtain ⟨y, hy⟩ : ∃ y, y = w3.heap.size := ⟨_, rfl⟩
      obtain ⟨z, hz⟩ : ∃ z, z = w.heap.size := ⟨_, rfl⟩
      rw [← hy] at HB ⊢
      rw [← hz] at HA3 ⊢
      clear hy hz HA
      have HKP : Hid (∀ W, Fresh V W → W.cell? ⟨y, 0, none⟩ = some (.int .u64 seq) ∧ W.cell? ⟨y, 1, none⟩ = some (.slice a1 l.length c1) ∧ W.cell? ⟨z, 0, none⟩ = some (.int .u64 seq) ∧ W.cell? ⟨z, 1, none⟩ = some (.slice a l.length c)) := fun W f =>
        ⟨(st2_box (f.at HB.out)).1, (st2_box (f.at HB.out)).2.1, (st2_box (f.at HA3.out)).1, (st2_box (f.at HA3.out)).2.1⟩
      obtain ⟨k0, k1, k2, k3⟩ := HKP.out V (.refl _)
      have HK : Hid (Fresh V V.drew) := (Fresh.refl V).drew
      have hdf : decide ((0 : Int) ≠ 0) = false := rfl
      go_region_held3 (fun w' => (w'.cell? ⟨y, 0, none⟩ = some (.int .u64 seq) ∧ w'.cell? ⟨y, 1, none⟩ = some (.slice a1 l.length c1) ∧ w'.cell? ⟨z, 0, none⟩ = some (.int .u64 seq) ∧ w'.cell? ⟨z, 1, none⟩ = some (.slice a l.length c))) (go_keep)
        (first
          | (go_at_call 24; (with_reducible refine (HOF1.out _ a1 c1 (HR1.out.move HK.out)).mono ?_); rintro e W2 ⟨a2, c2, rfl, hown, hf⟩; have HRQ := Lib.hid hown; have HK := Lib.hid (HK.out.trans hf); obtain ⟨k0, k1, k2, k3⟩ := HKP.out _ HK.out; clear hf hown)
          | (go_at_call 24; (with_reducible refine (HOF1.out _ a c (HR0.out.move HK.out)).mono ?_); rintro e W2 ⟨a3, c3, rfl, hown, hf⟩; have HRQ := Lib.hid (HRQ.out.move hf); have HRP := Lib.hid hown; have HK := Lib.hid (HK.out.trans hf); obtain ⟨k0, k1, k2, k3⟩ := HKP.out _ HK.out; clear hf hown)
          | (go_at_call 30; (with_reducible refine (HSAME.out _ _ _ _ _ HRQ.out HRP.out).mono ?_); rintro e W2 ⟨rfl, hf⟩; have HK := Lib.hid (HK.out.trans hf); obtain ⟨k0, k1, k2, k3⟩ := HKP.out _ HK.out; clear hf))
      have HFX := Lib.hid (HF3.out.trans HK.out)
      clear k0 k1 k2 k3 HK HKP HSAME HOF1
      go_wp2_with (fail)
      all_goals try (exfalso; omega)
      refine (HDB.out _).mono ?_
      rintro e w5 ⟨ab, cb, rfl, hrow, hf⟩
      have HF5 := Lib.hid (HFX.out.trans hf)
      have HROW5 := Lib.hid hrow
      clear hrow hf HFX
      dsimp only [st2]
      by_cases hC : C = 0
      case neg =>
        have e0 : (C != 0) = true := by simpa using hC
        obtain ⟨rfl, rfl⟩ := HBAD.out hC
        clear HBAD HGOOD
        have HB5 := Lib.hid (at_new w5 (.cells #[.int .u64 0, .slice ab ([] : List P2).length cb] 49))
        have HF6 := Lib.hid (HF5.out.alloc (.cells #[.int .u64 0, .slice ab ([] : List P2).length cb] 49))
        go_wp2_with (fail)
        refine (HAW.out _).mono ?_
        rintro e w6 ⟨rfl, hf⟩
        obtain ⟨q0, q1, _⟩ := st2_box (hf.at HB5.out)
        have HF7 := Lib.hid (HF6.out.trans hf)
        clear hf
        go_wp2
        go_ret
        exact ⟨rfl, HF7.out⟩
      subst hC
      have HEB := Lib.hid (HGOOD.out rfl)
      clear HBAD HGOOD
      have HB5 := Lib.hid (at_new w5 (.cells #[.int .u64 q, .slice ab L.length cb] 49))
      have HF6 := Lib.hid (HF5.out.alloc (.cells #[.int .u64 q, .slice ab L.length cb] 49))
      have HENC := Lib.hid (HEB.out ab cb _ (HROW5.out.move ((Fresh.refl w5).alloc (.cells #[.int .u64 q, .slice ab L.length cb] 49))))
      clear HEB HROW5 HF5
      go_wp2_with (fail)
      refine HENC.out.mono ?_
      rintro e w6 ⟨rfl, hf⟩
      have HF7 := Lib.hid (HF6.out.trans hf)
      clear hf
      go_wp2_with (fail)
      refine (HAW.out _).mono ?_
      rintro e w7 ⟨rfl, hf⟩
      have HF8 := Lib.hid (HF7.out.trans hf)
      clear hf
      go_wp2
      go_ret
      exact ⟨rfl, HF8.out⟩
end Go.Proofs.Ytphjhlnjfcfdcaa
namespace Go.Proofs.Ytphjhlnjfcfdcaa
open Go.ChangeShapes Go.WideShapes Go.ChangeAt Go.RowKit Go.Deep
set_option maxRecDepth 100000

theorem weights_all {H : Type} {P : Program} {e : TypeId} {n : Nat} : ∀ {l : List (DataW H)} {d : DataW H}, d ∈ l → n ∈ d.weights P e → n ∈ DataW.weightsAll P e l
  | [], _, h, _ => by cases h
  | a :: l, d, h, hn => by
    simp only [DataW.weightsAll, List.mem_append]
    rcases List.mem_cons.1 h with rfl | h
    · exact .inl hn
    · exact .inr (weights_all h hn)
theorem sized_mem {H : Type} {P : Program} {ts : List TypeId} {ds : List (DataW H)} (h : (DataW.weightsEach P ts ds).all (· ≤ reachBytes) = true) {j : Nat} {t : TypeId} {d : DataW H} (ht : ts[j]? = some t) (hd : ds[j]? = some d) {n : Nat} (hn : n ∈ d.weights P t) : n ≤ 140737488351232 := by
  have := List.all_eq_true.1 h _ (DataW.weights_mem_each ht hd n hn)
  have h2 : n ≤ reachBytes := by simpa using this
  have h3 : reachBytes = 140737488351232 := by decide
  omega
theorem own_knob : ownKnob Try.prog.godebug = none := by kernel_rfl
theorem laidOut : laidOutB Try.prog = true := by kernel_rfl
theorem trod_low {H : Type} {enc : TypeId × Value → H} {W : World} {t : TypeId} {v : Value} {d : DataW H} {p : List MemPlace} (h : DataW.Trod enc Try.prog W 0 (fun _ => true) true t v d p) : ∀ x ∈ p, x.block < W.heap.size := by
  obtain ⟨m, hm⟩ := h
  exact DataW.trod_lt m _ _ _ hm
theorem bulk_one {H : Type} (d : DataW H) : 1 ≤ Rows.uptoBulk d := by
  cases d with
  | lit l => cases l <;> simp [Rows.uptoBulk]
  | nil => simp [Rows.uptoBulk]
  | ptr d => simp [Rows.uptoBulk]
  | slice elems spare => simp [Rows.uptoBulk]
  | agg parts => simp [Rows.uptoBulk]
  | iface t d => simp [Rows.uptoBulk]
  | map entries => simp [Rows.uptoBulk]
  | held h => simp [Rows.uptoBulk]
theorem bulk_part {H : Type} {d : DataW H} {l : List (DataW H)} (h : d ∈ l) : Rows.uptoBulk d ≤ Rows.uptoBulkAll l := by
  induction l with
  | nil => cases h
  | cons x r ih =>
    simp only [Rows.uptoBulkAll]
    cases List.mem_cons.1 h with
    | inl e => subst e; omega
    | inr e => have := ih e; omega
theorem bulk_len {H : Type} (l : List (DataW H)) : l.length ≤ Rows.uptoBulkAll l := by
  induction l with
  | nil => simp
  | cons x r ih => have := bulk_one x; simp only [Rows.uptoBulkAll, List.length_cons]; omega
/-- A slice's row, its elements read by 'each'. -/
theorem open_rows {H : Type} {enc : TypeId × Value → H} {W : World} {fuel : Nat} {α : Type} [Inhabited α] {t e k : Nat} (cell : α → List Value) (P : α → DataW H → Prop) (hk : ∀ y, (cell y).length = k) (hkp : 0 < k) (ht : Try.prog.underlying t = some (.slice e)) (hc : Try.prog.cellsOf e = k)
    (each : ∀ n cs' d pl, DataW.trod enc Try.prog W 0 (fun _ => true) true n e cs' = some (d, pl) → ∃ y, cs' = cell y ∧ P y d) {cs : List Value} {x : DataW H × List MemPlace} (h : DataW.trod enc Try.prog W 0 (fun _ => true) true fuel t cs = some x) :
    ∃ (l : List α) (a : Option Addr) (cap : Nat), cs = [.slice a l.length cap] ∧ RowAt W a (l.flatMap cell) ∧ (∀ y ∈ l, ∃ d, P y d ∧ Rows.uptoBulk d ≤ Rows.uptoBulk x.1 ∧ ∀ n, n ∈ d.weights Try.prog e → n ∈ x.1.weights Try.prog t) ∧ l.length ≤ Rows.uptoBulk x.1 ∧ l.length ≤ cap ∧ l.length ≤ maxLen := by
  rcases open_slice ht h with ⟨rfl, rfl⟩ | ⟨ad, len, cap, m, n, D, Pl, rfl, _, hlc, hcm, hm, rfl, hx⟩
  · exact ⟨[], none, 0, rfl, RowAt.nil _ _, (fun y h => absurd h List.not_mem_nil), Nat.zero_le _, Nat.zero_le _, Nat.zero_le _⟩
  · simp only [if_true] at hm
    rw [hm] at hx
    rw [hc] at hx
    have hlm := hlc
    have get : ∀ i, i < len → ∃ y : α, (∀ j v, (cell y)[j]? = some v → W.cell? ((ad.add (i * k)).add j) = some v) ∧ P y (D i) := fun i hi => by
      obtain ⟨cs', h1, h2⟩ := hx i (by omega)
      obtain ⟨_, hlen, hcell⟩ := World.cells?_some h1
      obtain ⟨y, rfl, hp⟩ := each _ _ _ _ h2
      refine ⟨y, fun j v hj => ?_, hp⟩
      have hj3 := (List.getElem?_eq_some_iff.1 hj).1
      rw [hcell j (by rw [← hk y]; exact hj3)]
      exact hj
    obtain ⟨q, hq⟩ := choose_lt get
    have hll : ((List.range len).map q).length = len := by simp
    refine ⟨(List.range len).map q, some ad, cap, by rw [hll], ?_, ?_, ?_, by rw [hll]; exact hlc, by rw [hll]; unfold maxLen at hcm ⊢; omega⟩
    · by_cases h0 : len = 0
      · subst h0; exact .nil _ _
      · obtain ⟨b, off, spot⟩ := ad
        have hc0 : ∃ v, (cell (q 0))[0]? = some v := ⟨_, List.getElem?_eq_getElem (by rw [hk]; exact hkp)⟩
        obtain ⟨v0, hv0⟩ := hc0
        obtain rfl : spot = none := by
          have := World.cell?_spot ((hq 0 (by omega)).1 0 v0 hv0)
          simpa [Addr.add] using this
        refine .inr ⟨b, off, rfl, fun j v hj => ?_⟩
        have hjl : j < len * k := by
          have := (List.getElem?_eq_some_iff.1 hj).1
          rw [flat_length cell k hk, hll] at this
          exact this
        have hi : j / k < len := Nat.div_lt_of_lt_mul (by rw [Nat.mul_comm]; exact hjl)
        have hr : j % k < k := Nat.mod_lt _ hkp
        have hjd : j / k * k + j % k = j := by rw [Nat.mul_comm]; exact Nat.div_add_mod j k
        have hg := flat_get cell k hk ((List.range len).map q) (j / k) (by rw [hll]; exact hi) (j % k) hr
        rw [hjd, hj] at hg
        have he : ((List.range len).map q)[j / k]'(by rw [hll]; exact hi) = q (j / k) := by simp
        rw [he] at hg
        have := (hq (j / k) hi).1 (j % k) v hg.symm
        rw [addr_add, addr_add, Nat.add_assoc, hjd] at this
        exact this
    · intro y hy
      obtain ⟨i, hi, rfl⟩ := List.mem_map.1 hy
      have hi' := List.mem_range.1 hi
      refine ⟨D i, (hq i hi').2, ?_, fun n hn => ?_⟩
      rotate_left
      · simp only [DataW.weights, ht, List.mem_cons, List.mem_append]
        exact .inr (.inl (weights_all (List.mem_map.2 ⟨i, List.mem_range.2 hi', rfl⟩) hn))
      have : D i ∈ (List.range len).map D := List.mem_map.2 ⟨i, hi, rfl⟩
      have h2 := bulk_part this
      simp only [Rows.uptoBulk]
      omega
    · rw [hll]
      have := bulk_len ((List.range len).map D)
      simp only [Rows.uptoBulk]
      rw [List.length_map, List.length_range] at this
      omega
theorem cells_str : Try.prog.cellsOf 9 = 1 := by kernel_rfl
theorem cells_u8 : Try.prog.cellsOf 5 = 1 := by kernel_rfl
theorem cells_u32 : Try.prog.cellsOf 22 = 1 := by kernel_rfl
theorem cells_pod1 : Try.prog.cellsOf 66 = 4 := by kernel_rfl
theorem cells_spod1 : Try.prog.cellsOf 23 = 1 := by kernel_rfl
theorem cells_state1 : Try.prog.cellsOf 25 = 2 := by kernel_rfl
theorem u8_of {v : Int} (h : (Lit.int .u8 v).wf = true) : 0 ≤ v ∧ v ≤ 255 := by
  simp [Lit.wf, IntKind.min, IntKind.max, IntKind.signed, IntKind.bits] at h; omega
theorem u32_of {v : Int} (h : (Lit.int .u32 v).wf = true) : 0 ≤ v ∧ v ≤ 4294967295 := by
  simp [Lit.wf, IntKind.min, IntKind.max, IntKind.signed, IntKind.bits] at h; omega
/-- What a pod's datum says of its size. -/
def PodD {H : Type} (p : P1) (d : DataW H) : Prop :=
  (∀ K, (∀ n, n ∈ d.weights Try.prog 66 → n ≤ K) → p.Fit K) ∧ (∀ K, Rows.uptoBulk d ≤ K → p.Fit K)
theorem open_pod1 {H : Type} {enc : TypeId × Value → H} {W : World} {fuel : Nat} {cs : List Value} {d : DataW H} {pl : List MemPlace} (h : DataW.trod enc Try.prog W 0 (fun _ => true) true fuel 66 cs = some (d, pl)) :
    ∃ p : P1, cs = p.cells ∧ PodD p d := by
  obtain ⟨xs, k, hk, hxy, hlen, hxl, hf⟩ := DataW.trod_struct Try.underlying66 h
  rw [cells_pod1] at hlen
  match xs, hxl, cs, hlen with
  | [y0, y1, y2, y3], _, [v0, v1, v2, v3], _ =>
    have g0 := hf 0 _ rfl
    have g1 := hf 1 _ rfl
    have g2 := hf 2 _ rfl
    have g3 := hf 3 _ rfl
    simp [cells_str, cells_u8] at g0 g1 g2 g3
    obtain ⟨k0, e0, f0, _⟩ := DataW.trod_string Try.underlying9 g0
    obtain ⟨k1, e1, f1, _⟩ := DataW.trod_string Try.underlying9 g1
    obtain ⟨k2, e2, f2, _⟩ := DataW.trod_string Try.underlying9 g2
    obtain ⟨k3, e3, f3, w3⟩ := DataW.trod_int Try.underlying5 g3
    simp only [List.cons.injEq, and_true] at e0 e1 e2 e3
    subst e0 e1 e2 e3
    simp only [Prod.mk.injEq] at hxy
    obtain ⟨b0, b1⟩ := u8_of w3
    refine ⟨⟨k0, k1, k2, k3⟩, rfl, fun K hK => ?_, fun K hK => ?_⟩
    · rw [hxy.1] at hK
      simp only [List.map_cons, List.map_nil, f0, f1, f2, f3] at hK
      have hw : ∀ n ∈ [k0.data.toList.length, k1.data.toList.length, k2.data.toList.length], n ≤ K := fun n hn => hK n (by
        simp [DataW.weights, Try.underlying66, DataW.weightsEach]
        simpa using hn)
      refine ⟨?_, ?_, ?_, b0, b1⟩
      · show k0.size ≤ K; rw [Lib.size_eq]; exact hw _ (by simp)
      · show k1.size ≤ K; rw [Lib.size_eq]; exact hw _ (by simp)
      · show k2.size ≤ K; rw [Lib.size_eq]; exact hw _ (by simp)
    · rw [hxy.1] at hK
      simp only [List.map_cons, List.map_nil, f0, f1, f2, f3, Rows.uptoBulk, Rows.uptoBulkAll] at hK
      refine ⟨?_, ?_, ?_, b0, b1⟩
      · show k0.size ≤ K; rw [Lib.size_eq]; omega
      · show k1.size ≤ K; rw [Lib.size_eq]; omega
      · show k2.size ≤ K; rw [Lib.size_eq]; omega
/-- What a state's datum says of it. -/
structure St1D {H : Type} (seq : Int) (l : List P1) (d : DataW H) : Prop where
  s0 : 0 ≤ seq
  s1 : seq ≤ 4294967295
  len : l.length ≤ maxLen
  wt : ∀ K, (∀ n, n ∈ d.weights Try.prog 25 → n ≤ K) → ∀ p ∈ l, p.Fit K
  bk : ∀ K, Rows.uptoBulk d ≤ K → l.length ≤ K ∧ ∀ p ∈ l, p.Fit K
instance : Inhabited P1 := ⟨⟨⟨#[]⟩, ⟨#[]⟩, ⟨#[]⟩, 0⟩⟩
theorem open_st1 {H : Type} {enc : TypeId × Value → H} {W : World} {fuel : Nat} {cs : List Value} {d : DataW H} {pl : List MemPlace} (h : DataW.trod enc Try.prog W 0 (fun _ => true) true fuel 25 cs = some (d, pl)) :
    ∃ (seq : Int) (l : List P1) (a : Option Addr) (c : Nat), cs = [.int .u32 seq, .slice a l.length c] ∧ RowAt W a (p1s l) ∧ St1D seq l d := by
  obtain ⟨xs, k, hk, hxy, hlen, hxl, hf⟩ := DataW.trod_struct Try.underlying25 h
  rw [cells_state1] at hlen
  match xs, hxl, cs, hlen with
  | [y0, y1], _, [v0, v1], _ =>
    have g0 := hf 0 _ rfl
    have g1 := hf 1 _ rfl
    simp [cells_u32, cells_spod1] at g0 g1
    obtain ⟨k0, e0, f0, w0⟩ := DataW.trod_int Try.underlying22 g0
    obtain ⟨l, a, cap, e1, r1, b1, n1, l1, m1⟩ := open_rows (α := P1) P1.cells (fun p d => PodD p d) (fun _ => rfl) (by decide) Try.underlying23 cells_pod1 (fun n cs' d pl h => open_pod1 h) g1
    simp only [List.cons.injEq, and_true] at e0 e1
    subst e0 e1
    simp only [Prod.mk.injEq] at hxy
    obtain ⟨b0, b00⟩ := u32_of w0
    refine ⟨k0, l, a, cap, rfl, r1, b0, b00, m1, fun K hK p hp => ?_, fun K hK => ⟨?_, fun p hp => ?_⟩⟩
    · rw [hxy.1] at hK
      simp only [List.map_cons, List.map_nil] at hK
      obtain ⟨d', h1, _, h3⟩ := b1 p hp
      refine h1.1 K (fun n hn => hK n ?_)
      simp only [DataW.weights, Try.underlying25]
      simp [DataW.weightsEach]
      exact .inr (h3 n hn)
    · rw [hxy.1] at hK
      simp only [List.map_cons, List.map_nil, Rows.uptoBulk, Rows.uptoBulkAll] at hK
      omega
    · rw [hxy.1] at hK
      simp only [List.map_cons, List.map_nil, Rows.uptoBulk, Rows.uptoBulkAll] at hK
      obtain ⟨d', h1, h2, _⟩ := b1 p hp
      exact h1.2 K (by omega)
/-- A state among the arguments. -/
theorem arg_st1 {H : Type} {enc : TypeId × Value → H} {W : World} {base : Nat} {v : Value} {d : DataW H} {p : List MemPlace} (ho : Value.okWide Try.prog W .any base 25 v) (h : DataW.Trod enc Try.prog W 0 (fun _ => true) true 25 v d p) :
    ∃ (seq : Int) (l : List P1) (a : Option Addr) (c : Nat), v = st1 seq a l.length c ∧ RowAt W a (p1s l) ∧ St1D seq l d := by
  obtain ⟨cs, rfl, hs⟩ := okWide_struct Try.underlying25 ho
  obtain ⟨f, g⟩ := h
  obtain ⟨seq, l, a, c, h1, h2, h3⟩ := open_st1 g
  refine ⟨seq, l, a, c, ?_, h2, h3⟩
  have : cs = #[.int .u32 seq, .slice a l.length c] := Array.toList_inj.1 h1
  rw [this]; rfl
end Go.Proofs.Ytphjhlnjfcfdcaa
namespace Go.Proofs.Ytphjhlnjfcfdcaa
open Go.ChangeShapes Go.WideShapes Go.ChangeAt Go.RowKit Go.Deep
set_option maxRecDepth 100000

theorem cells_u16 : Try.prog.cellsOf 95 = 1 := by kernel_rfl
theorem cells_u64 : Try.prog.cellsOf 46 = 1 := by kernel_rfl
theorem cells_cont2 : Try.prog.cellsOf 100 = 2 := by kernel_rfl
theorem cells_scont2 : Try.prog.cellsOf 96 = 1 := by kernel_rfl
theorem cells_pod2 : Try.prog.cellsOf 98 = 6 := by kernel_rfl
theorem cells_spod2 : Try.prog.cellsOf 47 = 1 := by kernel_rfl
theorem cells_state2 : Try.prog.cellsOf 49 = 2 := by kernel_rfl
theorem u16_of {v : Int} (h : (Lit.int .u16 v).wf = true) : 0 ≤ v ∧ v ≤ 65535 := by
  simp [Lit.wf, IntKind.min, IntKind.max, IntKind.signed, IntKind.bits] at h; omega
theorem u64_of {v : Int} (h : (Lit.int .u64 v).wf = true) : 0 ≤ v ∧ v ≤ 18446744073709551615 := by
  simp [Lit.wf, IntKind.min, IntKind.max, IntKind.signed, IntKind.bits] at h; omega
instance : Inhabited C2 := ⟨⟨⟨#[]⟩, ⟨#[]⟩⟩⟩
instance : Inhabited M2 := ⟨⟨⟨⟨#[]⟩, ⟨#[]⟩, ⟨#[]⟩, 0, 0, []⟩, none, 0⟩⟩
/-- What a container's datum says of its size. -/
def ContD {H : Type} (c : C2) (d : DataW H) : Prop :=
  (∀ K, (∀ n, n ∈ d.weights Try.prog 100 → n ≤ K) → c.name.size ≤ K ∧ c.image.size ≤ K) ∧ (∀ K, Rows.uptoBulk d ≤ K → c.name.size ≤ K ∧ c.image.size ≤ K)
theorem open_cont2 {H : Type} {enc : TypeId × Value → H} {W : World} {fuel : Nat} {cs : List Value} {d : DataW H} {pl : List MemPlace} (h : DataW.trod enc Try.prog W 0 (fun _ => true) true fuel 100 cs = some (d, pl)) :
    ∃ c : C2, cs = c.cells ∧ ContD c d := by
  obtain ⟨xs, k, hk, hxy, hlen, hxl, hf⟩ := DataW.trod_struct Try.underlying100 h
  rw [cells_cont2] at hlen
  match xs, hxl, cs, hlen with
  | [y0, y1], _, [v0, v1], _ =>
    have g0 := hf 0 _ rfl
    have g1 := hf 1 _ rfl
    simp [cells_str] at g0 g1
    obtain ⟨k0, e0, f0, _⟩ := DataW.trod_string Try.underlying9 g0
    obtain ⟨k1, e1, f1, _⟩ := DataW.trod_string Try.underlying9 g1
    simp only [List.cons.injEq, and_true] at e0 e1
    subst e0 e1
    simp only [Prod.mk.injEq] at hxy
    refine ⟨⟨k0, k1⟩, rfl, fun K hK => ?_, fun K hK => ?_⟩
    · rw [hxy.1] at hK
      simp only [List.map_cons, List.map_nil, f0, f1] at hK
      have hw : ∀ n ∈ [k0.data.toList.length, k1.data.toList.length], n ≤ K := fun n hn => hK n (by
        simp [DataW.weights, Try.underlying100, DataW.weightsEach]
        simpa using hn)
      exact ⟨by show k0.size ≤ K; rw [Lib.size_eq]; exact hw _ (by simp), by show k1.size ≤ K; rw [Lib.size_eq]; exact hw _ (by simp)⟩
    · rw [hxy.1] at hK
      simp only [List.map_cons, List.map_nil, f0, f1, Rows.uptoBulk, Rows.uptoBulkAll] at hK
      exact ⟨by show k0.size ≤ K; rw [Lib.size_eq]; omega, by show k1.size ≤ K; rw [Lib.size_eq]; omega⟩
/-- What a pod's datum says of it. -/
structure Pod2D {H : Type} (W : World) (m : M2) (d : DataW H) : Prop where
  ins : m.In W
  len : m.p.cs.length ≤ maxLen
  wt : ∀ K, (∀ n, n ∈ d.weights Try.prog 98 → n ≤ K) → m.p.Fit K
  bk : ∀ K, Rows.uptoBulk d ≤ K → m.p.Fit K ∧ m.p.cs.length ≤ K
theorem open_pod2 {H : Type} {enc : TypeId × Value → H} {W : World} {fuel : Nat} {cs : List Value} {d : DataW H} {pl : List MemPlace} (h : DataW.trod enc Try.prog W 0 (fun _ => true) true fuel 98 cs = some (d, pl)) :
    ∃ m : M2, cs = m.cells ∧ Pod2D W m d := by
  obtain ⟨xs, k, hk, hxy, hlen, hxl, hf⟩ := DataW.trod_struct Try.underlying98 h
  rw [cells_pod2] at hlen
  match xs, hxl, cs, hlen with
  | [y0, y1, y2, y3, y4, y5], _, [v0, v1, v2, v3, v4, v5], _ =>
    have g0 := hf 0 _ rfl
    have g1 := hf 1 _ rfl
    have g2 := hf 2 _ rfl
    have g3 := hf 3 _ rfl
    have g4 := hf 4 _ rfl
    have g5 := hf 5 _ rfl
    simp [cells_str, cells_u8, cells_u16, cells_scont2] at g0 g1 g2 g3 g4 g5
    obtain ⟨k0, e0, f0, _⟩ := DataW.trod_string Try.underlying9 g0
    obtain ⟨k1, e1, f1, _⟩ := DataW.trod_string Try.underlying9 g1
    obtain ⟨k2, e2, f2, _⟩ := DataW.trod_string Try.underlying9 g2
    obtain ⟨k3, e3, f3, w3⟩ := DataW.trod_int Try.underlying5 g3
    obtain ⟨k4, e4, f4, w4⟩ := DataW.trod_int Try.underlying95 g4
    obtain ⟨l, a, cap, e5, r5, q5, n5, l5, m5⟩ := open_rows (α := C2) C2.cells (fun p d => ContD p d) (fun _ => rfl) (by decide) Try.underlying96 cells_cont2 (fun n cs' d pl h => open_cont2 h) g5
    simp only [List.cons.injEq, and_true] at e0 e1 e2 e3 e4 e5
    subst e0 e1 e2 e3 e4 e5
    simp only [Prod.mk.injEq] at hxy
    obtain ⟨b0, b1⟩ := u8_of w3
    obtain ⟨b2, b3⟩ := u16_of w4
    refine ⟨⟨⟨k0, k1, k2, k3, k4, l⟩, a, cap⟩, rfl, ⟨r5, l5⟩, m5, fun K hK => ?_, fun K hK => ⟨?_, ?_⟩⟩
    · rw [hxy.1] at hK
      simp only [List.map_cons, List.map_nil, f0, f1, f2, f3, f4] at hK
      have hw : ∀ n ∈ [k0.data.toList.length, k1.data.toList.length, k2.data.toList.length], n ≤ K := fun n hn => hK n (by
        simp [DataW.weights, Try.underlying98, DataW.weightsEach]
        rcases (by simpa using hn : n = _ ∨ n = _ ∨ n = _) with h | h | h
        · exact .inl h
        · exact .inr (.inl h)
        · exact .inr (.inr (.inl h)))
      refine ⟨?_, ?_, ?_, b0, b1, b2, b3, fun c hc => ?_⟩
      · show k0.size ≤ K; rw [Lib.size_eq]; exact hw _ (by simp)
      · show k1.size ≤ K; rw [Lib.size_eq]; exact hw _ (by simp)
      · show k2.size ≤ K; rw [Lib.size_eq]; exact hw _ (by simp)
      · obtain ⟨d', h1, _, h3⟩ := q5 c hc
        refine h1.1 K (fun n hn => hK n ?_)
        simp only [DataW.weights, Try.underlying98]
        simp [DataW.weightsEach]
        exact .inr (.inr (.inr (.inr (.inr (h3 n hn)))))
    · rw [hxy.1] at hK
      simp only [List.map_cons, List.map_nil, f0, f1, f2, f3, f4, Rows.uptoBulk, Rows.uptoBulkAll] at hK
      refine ⟨?_, ?_, ?_, b0, b1, b2, b3, fun c hc => ?_⟩
      · show k0.size ≤ K; rw [Lib.size_eq]; omega
      · show k1.size ≤ K; rw [Lib.size_eq]; omega
      · show k2.size ≤ K; rw [Lib.size_eq]; omega
      · obtain ⟨d', h1, h2, _⟩ := q5 c hc
        exact h1.2 K (by omega)
    · rw [hxy.1] at hK
      simp only [List.map_cons, List.map_nil, f0, f1, f2, f3, f4, Rows.uptoBulk, Rows.uptoBulkAll] at hK
      show l.length ≤ K
      omega
/-- What a state's datum says of it. -/
structure St2D {H : Type} (seq : Int) (l : List M2) (d : DataW H) : Prop where
  s0 : 0 ≤ seq
  s1 : seq ≤ 18446744073709551615
  len : l.length ≤ maxLen
  lens : ∀ m ∈ l, m.p.cs.length ≤ maxLen
  wt : ∀ K, (∀ n, n ∈ d.weights Try.prog 49 → n ≤ K) → ∀ m ∈ l, m.p.Fit K
  bk : ∀ K, Rows.uptoBulk d ≤ K → l.length ≤ K ∧ ∀ m ∈ l, m.p.Fit K ∧ m.p.cs.length ≤ K
theorem open_st2 {H : Type} {enc : TypeId × Value → H} {W : World} {fuel : Nat} {cs : List Value} {d : DataW H} {pl : List MemPlace} (h : DataW.trod enc Try.prog W 0 (fun _ => true) true fuel 49 cs = some (d, pl)) :
    ∃ (seq : Int) (l : List M2) (a : Option Addr) (c : Nat), cs = [.int .u64 seq, .slice a l.length c] ∧ Row2 W a l ∧ St2D seq l d := by
  obtain ⟨xs, k, hk, hxy, hlen, hxl, hf⟩ := DataW.trod_struct Try.underlying49 h
  rw [cells_state2] at hlen
  match xs, hxl, cs, hlen with
  | [y0, y1], _, [v0, v1], _ =>
    have g0 := hf 0 _ rfl
    have g1 := hf 1 _ rfl
    simp [cells_u64, cells_spod2] at g0 g1
    obtain ⟨k0, e0, f0, w0⟩ := DataW.trod_int Try.underlying46 g0
    obtain ⟨l, a, cap, e1, r1, b1, n1, l1, m1⟩ := open_rows (α := M2) M2.cells (fun p d => Pod2D W p d) (fun _ => rfl) (by decide) Try.underlying47 cells_pod2 (fun n cs' d pl h => open_pod2 h) g1
    simp only [List.cons.injEq, and_true] at e0 e1
    subst e0 e1
    simp only [Prod.mk.injEq] at hxy
    obtain ⟨b0, b00⟩ := u64_of w0
    refine ⟨k0, l, a, cap, rfl, ⟨r1, fun m hm => ?_⟩, b0, b00, m1, fun m hm => ?_, fun K hK p hp => ?_, fun K hK => ⟨?_, fun p hp => ?_⟩⟩
    · obtain ⟨d', h1, _⟩ := b1 m hm
      exact h1.ins
    · obtain ⟨d', h1, _⟩ := b1 m hm
      exact h1.len
    · rw [hxy.1] at hK
      simp only [List.map_cons, List.map_nil] at hK
      obtain ⟨d', h1, _, h3⟩ := b1 p hp
      refine h1.wt K (fun n hn => hK n ?_)
      simp only [DataW.weights, Try.underlying49]
      simp [DataW.weightsEach]
      exact .inr (h3 n hn)
    · rw [hxy.1] at hK
      simp only [List.map_cons, List.map_nil, Rows.uptoBulk, Rows.uptoBulkAll] at hK
      omega
    · rw [hxy.1] at hK
      simp only [List.map_cons, List.map_nil, Rows.uptoBulk, Rows.uptoBulkAll] at hK
      obtain ⟨d', h1, h2, _⟩ := b1 p hp
      exact h1.bk K (by omega)
/-- A state among the arguments. -/
theorem arg_st2 {H : Type} {enc : TypeId × Value → H} {W : World} {base : Nat} {v : Value} {d : DataW H} {p : List MemPlace} (ho : Value.okWide Try.prog W .any base 49 v) (h : DataW.Trod enc Try.prog W 0 (fun _ => true) true 49 v d p) :
    ∃ (seq : Int) (l : List M2) (a : Option Addr) (c : Nat), v = st2 seq a l.length c ∧ Row2 W a l ∧ St2D seq l d := by
  obtain ⟨cs, rfl, hs⟩ := okWide_struct Try.underlying49 ho
  obtain ⟨f, g⟩ := h
  obtain ⟨seq, l, a, c, h1, h2, h3⟩ := open_st2 g
  refine ⟨seq, l, a, c, ?_, h2, h3⟩
  have : cs = #[.int .u64 seq, .slice a l.length c] := Array.toList_inj.1 h1
  rw [this]; rfl
end Go.Proofs.Ytphjhlnjfcfdcaa
namespace Go.Proofs.Ytphjhlnjfcfdcaa.cktwoBack
open Go.ChangeShapes Go.WideShapes Go.ChangeAt Go.RowKit
open Go.ChangeMaps (open_string shut_string)
set_option linter.unusedVariables false

/-! ### From the walk to the row -/
set_option maxRecDepth 100000 in
theorem lifted (os : Os) (started : os.Started) (H : Type) (enc : TypeId × Value → H) :
    ReturnsInHanded {} Try.checked os 8 .any (Rows.cktwoBackSpec.pre6 enc Try.prog Try.f8 Rows.cktwoBackRow.domain false) (Rows.cktwoBackSpec.post enc Try.prog Try.f8 false true false false) := by
  refine returnsInHanded_of_change_sized (C := Try.checked) own_knob started (by kernel_rfl) Try.func8
    (ChangeSpec.witness6 (enc := enc) (C := Try.checked) false ⟨#[], #[.agg #[.int .u64 0, .slice none 0 0], .string ByteArray.empty], []⟩ 8 (by kernel_rfl) (by kernel_rfl) (by kernel_rfl) (by kernel_rfl)) ?_
  intro W base args ds gs before hval0 hW hcnd hsz _
  have hval : ∀ (j : Nat) t v, Try.f8.params[j]? = some t → args[j]? = some v → Value.okWide Try.prog W .any base t v := hval0
  have hW' := hW
  obtain ⟨p, q, hA0, hV, rfl, hfz, hnd⟩ := hW
  have hA : DataW.TrodAll enc Try.prog W 0 (fun _ => true) true Try.f8.params.toList args.toList ds p := hA0
  rw [Try.params8] at hA hval
  obtain ⟨v0, vs0, d0, ds0, p0, q0, hargs, rfl, rfl, h0, r0⟩ := trodAll_cons hA
  obtain ⟨v1, vs1, d1, ds1, p1, q1, rfl, rfl, rfl, h1, r1⟩ := trodAll_cons r0
  obtain ⟨rfl, rfl, rfl⟩ := trodAll_nil r1
  obtain rfl : args = #[v0, v1] := by cases args; simp_all
  obtain ⟨rfl, rfl⟩ := trodVars_none hV
  obtain ⟨seq, l, a, c, e0, a0, l0⟩ := arg_st2 (hval 0 49 v0 rfl rfl) h0
  obtain ⟨s1, rfl, rfl, rfl, w1⟩ := open_string Try.underlying9 (hval 1 9 v1 rfl rfl) h1
  have lt0 := trod_low h0
  have hfit : ∀ p ∈ pods2 l, p.Fit 140737488355328 := fun p hp => by
    obtain ⟨m, hm, rfl⟩ := List.mem_map.1 hp
    exact (l0.wt 140737488351232 (fun n hn => sized_mem hsz (j := 0) rfl rfl hn) m hm).mono (by omega)
  have hcl : ∀ p ∈ pods2 l, p.cs.length ≤ maxLen := fun p hp => by
    obtain ⟨m, hm, rfl⟩ := List.mem_map.1 hp
    exact l0.lens m hm
  have hlen : (pods2 l).length ≤ maxLen := by rw [pods2_length]; exact l0.len
  subst e0
  clear hA0 hval0
  have hback := back2_any seq a (pods2 l) c s1 W ⟨l, rfl, a0⟩ hfit hlen hcl l0.s0 l0.s1 w1
  rw [pods2_length] at hback
  refine hback.mono fun e W' ⟨he, hg⟩ => ?_
  subst he
  exact ⟨_, rfl, _, _, _, [], _, [], hW', trodAll_mk1 (shut_bool Try.underlying4 _), (trodAll_cons_mk (Below.trod laidOut (by kernel_rfl) (of_decide_eq_true (by kernel_rfl)) h0 hg lt0) (trodAll_cons_mk (shut_string Try.underlying9 w1) trodAll_mk0)), rfl, Below.frame hg _, fun h => by cases h⟩

theorem cktwoBack_holds : Rows.CktwoBackSaid :=
  OpenClaim.holds_of_wide 8 Try.f8 rfl rfl rfl rfl rfl rfl rfl ⟨rfl, rfl, rfl, rfl, rfl⟩ rfl rfl rfl rfl rfl (by kernel_rfl) Try.func8 (by kernel_rfl)
    (of_decide_eq_true (by kernel_rfl)) (by unfold Func.isWrapper; first | (rw [if_pos (by decide +kernel)]; kernel_rfl) | (rw [if_neg (by decide +kernel)]; exact ⟨rfl, rfl⟩))
    (fun os started H enc _ => lifted os started H enc)
#print axioms cktwoBack_holds
end Go.Proofs.Ytphjhlnjfcfdcaa.cktwoBack
