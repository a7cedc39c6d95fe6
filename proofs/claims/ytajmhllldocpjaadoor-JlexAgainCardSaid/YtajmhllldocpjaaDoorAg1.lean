/-
  Quoted texts are unquoted as they were; what is unquoted is valid. No call.
-/
import Derived.Test.YtajmhllldocpjaaDoorUnq4
import Derived.Test.YtajmhllldocpjaaDoorPieces
namespace Go.Proofs.YtajmhllldocpjaaDoor
open Go.Lib

/-- Bytes between quotes, and what they say. -/
def Piece (p m : List UInt8) : Prop := (∃ c cs, p = c :: cs ∧ c ≠ 34) ∧ ∀ rest, chrF (p ++ rest) = (0, m, rest)
theorem Piece.step {p m : List UInt8} (h : Piece p m) (f : Nat) (X acc : List UInt8) : loopF (f + 1) (p ++ X) acc = loopF f X (acc ++ m) := by
  obtain ⟨⟨c, cs, rfl, hc⟩, hk⟩ := h
  have hk := hk X
  rw [List.cons_append] at hk ⊢
  rw [loopF, if_neg hc, hk, if_neg (by simp)]
theorem piece_plain (c : UInt8) (cs : List UInt8) (h0 : 32 ≤ c.toNat) (h34 : c.toNat ≠ 34) (h92 : c.toNat ≠ 92) (h : Tail c cs) : Piece (c :: cs) (c :: cs) := by
  refine ⟨⟨c, cs, rfl, fun e => h34 (by rw [e]; rfl)⟩, fun rest => ?_⟩
  have hl : chLen (c :: (cs ++ rest)) = (c :: cs).length := h.dec rest
  have ht : (c :: (cs ++ rest)).take (c :: cs).length = c :: cs := by rw [← List.cons_append, List.take_left]
  have hd : (c :: (cs ++ rest)).drop (c :: cs).length = rest := by rw [← List.cons_append, List.drop_left]
  rw [List.cons_append, chrF, if_neg (fun e => h92 (by rw [e]; rfl)), hl, ht, hd, h.valid, if_neg (by simp; omega)]
theorem piece_esc (y : UInt8) (m : List UInt8) (h : ∀ rest, escF (y :: rest) = (0, m, rest)) : Piece [92, y] m :=
  ⟨⟨92, [y], rfl, by decide⟩, fun rest => by
    show chrF (92 :: y :: rest) = _
    rw [chrF, if_pos rfl]; exact h rest⟩
theorem hexv_hexB : ∀ n, n < 16 → hexv (hexB n) = n := by decide +kernel
theorem piece_q (c : UInt8) (h : c.toNat < 128) : Piece (qB c) [c] := by
  by_cases h34 : c.toNat = 34
  · obtain rfl := c_of h34
    exact piece_esc 34 _ fun _ => rfl
  by_cases h92 : c.toNat = 92
  · obtain rfl := c_of h92
    exact piece_esc 92 _ fun _ => rfl
  by_cases h10 : c.toNat = 10
  · obtain rfl := c_of h10
    exact piece_esc 110 _ fun _ => rfl
  by_cases h13 : c.toNat = 13
  · obtain rfl := c_of h13
    exact piece_esc 114 _ fun _ => rfl
  by_cases h9 : c.toNat = 9
  · obtain rfl := c_of h9
    exact piece_esc 116 _ fun _ => rfl
  by_cases h8 : c.toNat = 8
  · obtain rfl := c_of h8
    exact piece_esc 98 _ fun _ => rfl
  by_cases h12 : c.toNat = 12
  · obtain rfl := c_of h12
    exact piece_esc 102 _ fun _ => rfl
  have ne : ∀ n : Nat, c.toNat ≠ n → n < 256 → ¬ c = UInt8.ofNat n := fun n h hn e => h (by rw [e, UInt8.toNat_ofNat']; omega)
  have e : qB c = if c.toNat < 32 then [92, 117, 48, 48, hexB (c.toNat / 16), hexB (c.toNat % 16)] else [c] := by
    rw [qB, if_neg (by rintro (h | h); exact ne 34 h34 (by omega) h; exact ne 92 h92 (by omega) h), if_neg (show ¬ c = 10 from ne 10 h10 (by omega)), if_neg (show ¬ c = 13 from ne 13 h13 (by omega)), if_neg (show ¬ c = 9 from ne 9 h9 (by omega)), if_neg (show ¬ c = 8 from ne 8 h8 (by omega)), if_neg (show ¬ c = 12 from ne 12 h12 (by omega))]
  rw [e]
  by_cases h32 : c.toNat < 32
  · rw [if_pos h32]
    refine ⟨⟨92, _, rfl, by decide⟩, fun rest => ?_⟩
    have d1 := hexv_hexB (c.toNat / 16) (by omega)
    have d2 := hexv_hexB (c.toNat % 16) (by omega)
    have d0 : hexv 48 = 0 := by decide
    have hn : numF 4 0 (48 :: 48 :: hexB (c.toNat / 16) :: hexB (c.toNat % 16) :: rest) = (0, (c.toNat : Int), rest) := by
      have e1 : ¬ hexv 48 < 0 := by rw [d0]; omega
      have e2 : ¬ hexv (hexB (c.toNat / 16)) < 0 := by rw [d1]; omega
      have e3 : ¬ hexv (hexB (c.toNat % 16)) < 0 := by rw [d2]; omega
      rw [numF, if_neg e1, numF, if_neg e1, numF, if_neg e2, numF, if_neg e3, numF, d0, d1, d2]
      simp only [Prod.mk.injEq, true_and, and_true]
      omega
    show chrF (92 :: 117 :: 48 :: 48 :: hexB (c.toNat / 16) :: hexB (c.toNat % 16) :: rest) = _
    rw [chrF, if_pos rfl]
    show byNumF (48 :: 48 :: hexB (c.toNat / 16) :: hexB (c.toNat % 16) :: rest) = _
    have hf : firstB (c.toNat : Int) = false := decide_eq_false (by omega)
    have hs : secondB (c.toNat : Int) = false := decide_eq_false (by omega)
    rw [byNum_one _ (by rw [hn]) (by rw [hn]; exact hf) (by rw [hn]; exact hs), hn]
    show (0, Lib.encodeRune (c.toNat : Int), rest) = _
    rw [Lib.encodeRune, Lib.encodeRuneZ_one (by omega) (by omega)]
    simp
  · rw [if_neg h32]
    exact piece_plain c [] (by omega) h34 h92 (tail_nil c h)
theorem loop_q : ∀ (n : Nat) (l : List UInt8), l.length ≤ n → validD l = true → ∀ (f : Nat) (acc more : List UInt8), (qL l).length < f → loopF f (qL l ++ 34 :: more) acc = (0, acc ++ l, more)
  | _, [], _, _, f, acc, more, hf => by
    obtain ⟨f, rfl⟩ : ∃ g, f = g + 1 := ⟨f - 1, by omega⟩
    show loopF (f + 1) (34 :: more) acc = _
    rw [loopF, if_pos rfl, List.append_nil]
  | 0, _ :: _, h, _, _, _, _, _ => by simp at h
  | n + 1, c :: l, h, hv, f, acc, more, hf => by
    obtain ⟨f, rfl⟩ : ∃ g, f = g + 1 := ⟨f - 1, by omega⟩
    by_cases hc : c.toNat < 128
    · rw [validD_cons _ _ hc] at hv
      have hp := piece_q c hc
      have e : qL (c :: l) = qB c ++ qL l := rfl
      have hq : 1 ≤ (qB c).length := by obtain ⟨⟨d, ds, e, _⟩, _⟩ := hp; rw [e]; simp
      rw [e, List.append_assoc, hp.step, loop_q n l (by simp at h; omega) hv f _ _ (by rw [e, List.length_append] at hf; omega)]
      simp
    · obtain ⟨cs, l2, rfl, ht, hv2⟩ := lead_split c l (by omega) hv
      have hh : ∀ b ∈ c :: cs, 128 ≤ b.toNat := fun b hb => by
        rcases List.mem_cons.1 hb with rfl | hb
        · omega
        · exact ht.high b hb
      have e : qL (c :: (cs ++ l2)) = (c :: cs) ++ qL l2 := by rw [← List.cons_append, qL_app, qL_high (c :: cs) hh]
      have hp := piece_plain c cs (by omega) (by omega) (by omega) ht
      rw [e, List.append_assoc, hp.step, loop_q n l2 (by simp at h; omega) hv2 f _ _ (by rw [e, List.length_append, List.length_cons] at hf; omega)]
      simp
/-- A text, quoted, is unquoted as it was. -/
theorem unqF_quoted (l more : List UInt8) (hv : validD l = true) (h4 : l.length ≤ 4096) : unqF (quoted l ++ more) = (l, (quoted l).length, 0) := by
  have e : quoted l ++ more = 34 :: (qL l ++ 34 :: more) := by simp [quoted]
  have hl := loop_q l.length l (Nat.le_refl _) hv ((qL l ++ 34 :: more).length + 1) [] more (by simp; omega)
  have hq : (quoted l).length = (qL l).length + 2 := by simp [quoted]
  rw [e, unqF, if_neg (by simp), hl, if_neg (by simp), if_neg (by simp; omega)]
  dsimp only
  rw [hq]
  simp
  omega
/-! ### valid texts -/
theorem class_of : ∀ n, n < 256 → 128 ≤ n → firstT n = 241 ∨ firstT n % 8 = 1 + 1 ∨ firstT n % 8 = 2 + 1 ∨ firstT n % 8 = 3 + 1 := by decide +kernel
theorem lead_cases (c : UInt8) (hc : 128 ≤ c.toNat) : (∀ l, validD (c :: l) = false) ∨ ∃ n lo hi, ∀ l, validD (c :: l) = (contOK l n lo hi && validD (l.drop n)) := by
  rcases class_of c.toNat (c.toNat_lt) hc with h | h | h | h
  · exact .inl fun l => valid_bad c l hc h
  · exact .inr ⟨1, _, _, fun l => valid_lead c l 1 _ _ hc (.inl rfl) h rfl rfl⟩
  · exact .inr ⟨2, _, _, fun l => valid_lead c l 2 _ _ hc (.inr (.inl rfl)) h rfl rfl⟩
  · exact .inr ⟨3, _, _, fun l => valid_lead c l 3 _ _ hc (.inr (.inr rfl)) h rfl rfl⟩
theorem contOK_len : ∀ (n : Nat) (l : List UInt8) (lo hi : Nat), contOK l n lo hi = true → n ≤ l.length
  | 0, l, _, _, _ => Nat.zero_le _
  | n + 1, [], _, _, h => by simp [contOK] at h
  | n + 1, b :: l, _, _, h => by
    simp only [contOK, Bool.and_eq_true] at h
    have := contOK_len n l _ _ h.2
    simp; omega
theorem contOK_app : ∀ (n : Nat) (l X : List UInt8) (lo hi : Nat), n ≤ l.length → contOK (l ++ X) n lo hi = contOK l n lo hi
  | 0, l, X, _, _, _ => by cases l <;> cases X <;> simp [contOK]
  | n + 1, [], _, _, _, h => by simp at h
  | n + 1, b :: l, X, lo, hi, h => by
    rw [List.cons_append, contOK, contOK, contOK_app n l X _ _ (by simpa using h)]
theorem validD_append : ∀ (n : Nat) (a b : List UInt8), a.length ≤ n → validD a = true → validD (a ++ b) = validD b
  | _, [], _, _, _ => rfl
  | 0, _ :: _, _, h, _ => by simp at h
  | n + 1, c :: l, b, h, hv => by
    rw [List.cons_append]
    by_cases hc : c.toNat < 128
    · rw [validD_cons _ _ hc] at hv ⊢
      exact validD_append n l b (by simp at h; omega) hv
    · rcases lead_cases c (by omega) with hb | ⟨k, lo, hi, hk⟩
      · rw [hb] at hv; cases hv
      · rw [hk, Bool.and_eq_true] at hv
        have hl := contOK_len k l lo hi hv.1
        rw [hk, contOK_app k l b lo hi hl, hv.1, List.drop_append_of_le_length hl, Bool.true_and]
        exact validD_append n (l.drop k) b (by simp at h ⊢; omega) hv.2
theorem valid_of (c : UInt8) (l : List UInt8) (n lo hi : Nat) (hc : 128 ≤ c.toNat) (hn : n = 1 ∨ n = 2 ∨ n = 3) (h1 : firstT c.toNat % 8 = n + 1) (h2 : accLo (firstT c.toNat / 16) = lo) (h3 : accHi (firstT c.toNat / 16) = hi) (hl : l.length = n) (hk : contOK l n lo hi = true) : validD (c :: l) = true := by
  rw [valid_lead c l n lo hi hc hn h1 h2 h3, hk, List.drop_of_length_le (by omega)]
  rfl
theorem u8_of (z : Int) (h0 : 0 ≤ z) (h1 : z < 256) : (z.toNat.toUInt8).toNat = z.toNat := by
  have : z.toNat < 256 := by omega
  simp
  omega
theorem tab2 : ∀ n, n < 256 → 194 ≤ n → n < 224 → firstT n % 8 = 1 + 1 ∧ accLo (firstT n / 16) = 128 ∧ accHi (firstT n / 16) = 191 := by decide +kernel
theorem tab3 : ∀ n, n < 256 → 224 ≤ n → n < 240 → firstT n % 8 = 2 + 1 ∧ accLo (firstT n / 16) = (if n = 224 then 160 else 128) ∧ accHi (firstT n / 16) = (if n = 237 then 159 else 191) := by decide +kernel
theorem tab4 : ∀ n, n < 256 → 240 ≤ n → n < 245 → firstT n % 8 = 3 + 1 ∧ accLo (firstT n / 16) = (if n = 240 then 144 else 128) ∧ accHi (firstT n / 16) = (if n = 244 then 143 else 191) := by decide +kernel
theorem valid_rune (z : Int) (h0 : 0 ≤ z) (h1 : z ≤ 1114111) (h2 : z < 55296 ∨ 57344 ≤ z) : validD (encodeRune z) = true := by
  by_cases a : z ≤ 127
  · rw [encodeRune, encodeRuneZ_one h0 a]
    show validD [z.toNat.toUInt8] = true
    rw [validD_cons _ _ (by rw [u8_of z h0 (by omega)]; omega)]
    rfl
  by_cases b : z ≤ 2047
  · rw [encodeRune, encodeRuneZ_two (by omega) b]
    show validD ((192 + z / 64).toNat.toUInt8 :: [(128 + z % 64).toNat.toUInt8]) = true
    have e1 := u8_of (192 + z / 64) (by omega) (by omega)
    have e2 := u8_of (128 + z % 64) (by omega) (by omega)
    generalize (192 + z / 64).toNat.toUInt8 = c at *
    generalize (128 + z % 64).toNat.toUInt8 = d at *
    obtain ⟨t1, t2, t3⟩ := tab2 c.toNat c.toNat_lt (by omega) (by omega)
    exact valid_of c [d] 1 128 191 (by omega) (.inl rfl) t1 t2 t3 rfl (by simp [contOK]; omega)
  by_cases d : z ≤ 65535
  · rw [encodeRune, encodeRuneZ_three (by omega)]
    show validD ((224 + z / 4096).toNat.toUInt8 :: [(128 + z / 64 % 64).toNat.toUInt8, (128 + z % 64).toNat.toUInt8]) = true
    have e1 := u8_of (224 + z / 4096) (by omega) (by omega)
    have e2 := u8_of (128 + z / 64 % 64) (by omega) (by omega)
    have e3 := u8_of (128 + z % 64) (by omega) (by omega)
    generalize (224 + z / 4096).toNat.toUInt8 = c at *
    generalize (128 + z / 64 % 64).toNat.toUInt8 = x at *
    generalize (128 + z % 64).toNat.toUInt8 = y at *
    obtain ⟨t1, t2, t3⟩ := tab3 c.toNat c.toNat_lt (by omega) (by omega)
    refine valid_of c [x, y] 2 _ _ (by omega) (.inr (.inl rfl)) t1 t2 t3 rfl ?_
    simp only [contOK, Bool.and_true, Bool.and_eq_true, decide_eq_true_eq]
    refine ⟨?_, by omega, by omega⟩
    split <;> split <;> omega
  · rw [encodeRune, encodeRuneZ_four (by omega) h1]
    show validD ((240 + z / 262144).toNat.toUInt8 :: [(128 + z / 4096 % 64).toNat.toUInt8, (128 + z / 64 % 64).toNat.toUInt8, (128 + z % 64).toNat.toUInt8]) = true
    have e1 := u8_of (240 + z / 262144) (by omega) (by omega)
    have e2 := u8_of (128 + z / 4096 % 64) (by omega) (by omega)
    have e3 := u8_of (128 + z / 64 % 64) (by omega) (by omega)
    have e4 := u8_of (128 + z % 64) (by omega) (by omega)
    generalize (240 + z / 262144).toNat.toUInt8 = c at *
    generalize (128 + z / 4096 % 64).toNat.toUInt8 = x at *
    generalize (128 + z / 64 % 64).toNat.toUInt8 = y at *
    generalize (128 + z % 64).toNat.toUInt8 = v at *
    obtain ⟨t1, t2, t3⟩ := tab4 c.toNat c.toNat_lt (by omega) (by omega)
    refine valid_of c [x, y, v] 3 _ _ (by omega) (.inr (.inr rfl)) t1 t2 t3 rfl ?_
    simp only [contOK, Bool.and_true, Bool.and_eq_true, decide_eq_true_eq]
    refine ⟨?_, ⟨by omega, by omega⟩, by omega, by omega⟩
    split <;> split <;> omega
end Go.Proofs.YtajmhllldocpjaaDoor
