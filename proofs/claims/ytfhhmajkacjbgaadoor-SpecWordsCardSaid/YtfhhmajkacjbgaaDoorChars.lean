/-
  Of valid UTF-8: what its first character is, and how many bytes it has.
-/
import Derived.Test.YtfhhmajkacjbgaaDoorUtfM
namespace Go.Proofs.YtfhhmajkacjbgaaDoor
open Go.Lib
theorem dec2 (n c b1 b2 b3 : Nat) (hn : 2 ≤ n) (hc : 194 ≤ c) (hc2 : c < 224) (h1 : 128 ≤ b1) (h2 : b1 ≤ 191) : (decodeN n c b1 b2 b3).2 = 2 := by
  rw [decodeN, if_neg (by omega), if_pos (by omega), if_pos (by omega)]
theorem dec3 (n c b1 b2 b3 : Nat) (hn : 3 ≤ n) (hc : 224 ≤ c) (hc2 : c < 240) (h1 : 128 ≤ b1) (h2 : b1 ≤ 191) (h3 : 128 ≤ b2) (h4 : b2 ≤ 191) (e1 : c = 224 → 160 ≤ b1) (e2 : c = 237 → b1 ≤ 159) : (decodeN n c b1 b2 b3).2 = 3 := by
  rw [decodeN, if_neg (by omega), if_neg (by omega), if_pos (by omega), if_pos (by omega)]
theorem dec4 (n c b1 b2 b3 : Nat) (hn : 4 ≤ n) (hc : 240 ≤ c) (hc2 : c < 245) (h1 : 128 ≤ b1) (h2 : b1 ≤ 191) (h3 : 128 ≤ b2) (h4 : b2 ≤ 191) (h5 : 128 ≤ b3) (h6 : b3 ≤ 191) (e1 : c = 240 → 144 ≤ b1) (e2 : c = 244 → b1 ≤ 143) : (decodeN n c b1 b2 b3).2 = 4 := by
  rw [decodeN, if_neg (by omega), if_neg (by omega), if_neg (by omega), if_pos (by omega), if_pos (by omega)]
theorem dec_bs (l : List UInt8) (h : l ≠ []) : decodeGo (bs l) = decodeN l.length (l.getD 0 0).toNat (l.getD 1 0).toNat (l.getD 2 0).toNat (l.getD 3 0).toNat := by
  have hs : (bs l).size ≠ 0 := by rw [bs_size]; exact fun e => h (List.eq_nil_of_length_eq_zero e)
  have g : ∀ i, (bs l).get! i = l.getD i 0 := fun i => by
    simp [bs, ByteArray.get!, List.getD_eq_getElem?_getD]
    rfl
  rw [decodeGo, if_neg hs, decode_at, Nat.sub_zero, bs_size, g, g, g, g]
/-- A character's bytes behind its first one. -/
structure Tail (c : UInt8) (cs : List UInt8) : Prop where
  high : ∀ b ∈ cs, 128 ≤ b.toNat
  valid : validD (c :: cs) = true
  len : cs.length ≤ 3
  dec : ∀ rest, (decodeGo (bs (c :: cs ++ rest))).2 = (c :: cs).length
theorem cont1 {l : List UInt8} {lo hi : Nat} (h : contOK l 1 lo hi = true) : ∃ a l2, l = a :: l2 ∧ lo ≤ a.toNat ∧ a.toNat ≤ hi := by
  cases l with
  | nil => simp [contOK] at h
  | cons a l2 => simp [contOK] at h; exact ⟨a, l2, rfl, h⟩
theorem cont2 {l : List UInt8} {lo hi : Nat} (h : contOK l 2 lo hi = true) : ∃ a b l2, l = a :: b :: l2 ∧ (lo ≤ a.toNat ∧ a.toNat ≤ hi) ∧ 128 ≤ b.toNat ∧ b.toNat ≤ 191 := by
  rcases l with _ | ⟨a, _ | ⟨b, l2⟩⟩
  · simp [contOK] at h
  · simp [contOK] at h
  · simp [contOK] at h; exact ⟨a, b, l2, rfl, h.1, h.2⟩
theorem cont3 {l : List UInt8} {lo hi : Nat} (h : contOK l 3 lo hi = true) : ∃ a b d l2, l = a :: b :: d :: l2 ∧ (lo ≤ a.toNat ∧ a.toNat ≤ hi) ∧ (128 ≤ b.toNat ∧ b.toNat ≤ 191) ∧ 128 ≤ d.toNat ∧ d.toNat ≤ 191 := by
  rcases l with _ | ⟨a, _ | ⟨b, _ | ⟨d, l2⟩⟩⟩
  · simp [contOK] at h
  · simp [contOK] at h
  · simp [contOK] at h
  · simp [contOK] at h; exact ⟨a, b, d, l2, rfl, h.1, h.2.1, h.2.2⟩
theorem tail1 {c a : UInt8} (h0 : 194 ≤ c.toNat) (h1 : c.toNat < 224) (h2 : 128 ≤ a.toNat) (h3 : a.toNat ≤ 191) (hv : validD [c, a] = true) : Tail c [a] :=
  ⟨by simp; omega, hv, by simp, fun rest => by
    rw [dec_bs _ (by simp)]
    exact dec2 _ _ _ _ _ (by simp) h0 h1 h2 h3⟩
theorem tail2 {c a b : UInt8} (h0 : 224 ≤ c.toNat) (h1 : c.toNat < 240) (h2 : 128 ≤ a.toNat) (h3 : a.toNat ≤ 191) (h4 : 128 ≤ b.toNat) (h5 : b.toNat ≤ 191) (e1 : c.toNat = 224 → 160 ≤ a.toNat) (e2 : c.toNat = 237 → a.toNat ≤ 159) (hv : validD [c, a, b] = true) : Tail c [a, b] :=
  ⟨by simp; omega, hv, by simp, fun rest => by
    rw [dec_bs _ (by simp)]
    exact dec3 _ _ _ _ _ (by simp) h0 h1 h2 h3 h4 h5 e1 e2⟩
theorem tail3 {c a b d : UInt8} (h0 : 240 ≤ c.toNat) (h1 : c.toNat < 245) (h2 : 128 ≤ a.toNat) (h3 : a.toNat ≤ 191) (h4 : 128 ≤ b.toNat) (h5 : b.toNat ≤ 191) (h6 : 128 ≤ d.toNat) (h7 : d.toNat ≤ 191) (e1 : c.toNat = 240 → 144 ≤ a.toNat) (e2 : c.toNat = 244 → a.toNat ≤ 143) (hv : validD [c, a, b, d] = true) : Tail c [a, b, d] :=
  ⟨by simp; omega, hv, by simp, fun rest => by
    rw [dec_bs _ (by simp)]
    exact dec4 _ _ _ _ _ (by simp) h0 h1 h2 h3 h4 h5 h6 h7 e1 e2⟩
theorem split1 {c : UInt8} {l : List UInt8} {lo hi : Nat} (hc : 128 ≤ c.toNat) (h0 : 194 ≤ c.toNat) (h1 : c.toNat < 224) (hlo : 128 ≤ lo) (hhi : hi ≤ 191) (k1 : firstT c.toNat % 8 = 1 + 1) (k2 : accLo (firstT c.toNat / 16) = lo) (k3 : accHi (firstT c.toNat / 16) = hi) (hv : validD (c :: l) = true) : ∃ cs l2, l = cs ++ l2 ∧ Tail c cs ∧ validD l2 = true := by
  rw [valid_lead c l 1 lo hi hc (.inl rfl) k1 k2 k3, Bool.and_eq_true] at hv
  obtain ⟨a, l2, rfl, ha1, ha2⟩ := cont1 hv.1
  refine ⟨[a], l2, rfl, tail1 h0 h1 (by omega) (by omega) ?_, hv.2⟩
  rw [valid_lead c [a] 1 lo hi hc (.inl rfl) k1 k2 k3]
  simp [contOK, ha1, ha2, validD_nil]
theorem split2 {c : UInt8} {l : List UInt8} {lo hi : Nat} (hc : 128 ≤ c.toNat) (h0 : 224 ≤ c.toNat) (h1 : c.toNat < 240) (hlo : 128 ≤ lo) (hhi : hi ≤ 191) (e1 : c.toNat = 224 → 160 ≤ lo) (e2 : c.toNat = 237 → hi ≤ 159) (k1 : firstT c.toNat % 8 = 2 + 1) (k2 : accLo (firstT c.toNat / 16) = lo) (k3 : accHi (firstT c.toNat / 16) = hi) (hv : validD (c :: l) = true) : ∃ cs l2, l = cs ++ l2 ∧ Tail c cs ∧ validD l2 = true := by
  rw [valid_lead c l 2 lo hi hc (.inr (.inl rfl)) k1 k2 k3, Bool.and_eq_true] at hv
  obtain ⟨a, b, l2, rfl, ⟨ha1, ha2⟩, hb1, hb2⟩ := cont2 hv.1
  refine ⟨[a, b], l2, rfl, tail2 h0 h1 (by omega) (by omega) hb1 hb2 (fun e => by have := e1 e; omega) (fun e => by have := e2 e; omega) ?_, hv.2⟩
  rw [valid_lead c [a, b] 2 lo hi hc (.inr (.inl rfl)) k1 k2 k3]
  simp [contOK, ha1, ha2, hb1, hb2, validD_nil]
theorem split3 {c : UInt8} {l : List UInt8} {lo hi : Nat} (hc : 128 ≤ c.toNat) (h0 : 240 ≤ c.toNat) (h1 : c.toNat < 245) (hlo : 128 ≤ lo) (hhi : hi ≤ 191) (e1 : c.toNat = 240 → 144 ≤ lo) (e2 : c.toNat = 244 → hi ≤ 143) (k1 : firstT c.toNat % 8 = 3 + 1) (k2 : accLo (firstT c.toNat / 16) = lo) (k3 : accHi (firstT c.toNat / 16) = hi) (hv : validD (c :: l) = true) : ∃ cs l2, l = cs ++ l2 ∧ Tail c cs ∧ validD l2 = true := by
  rw [valid_lead c l 3 lo hi hc (.inr (.inr rfl)) k1 k2 k3, Bool.and_eq_true] at hv
  obtain ⟨a, b, d, l2, rfl, ⟨ha1, ha2⟩, ⟨hb1, hb2⟩, hd1, hd2⟩ := cont3 hv.1
  refine ⟨[a, b, d], l2, rfl, tail3 h0 h1 (by omega) (by omega) hb1 hb2 hd1 hd2 (fun e => by have := e1 e; omega) (fun e => by have := e2 e; omega) ?_, hv.2⟩
  rw [valid_lead c [a, b, d] 3 lo hi hc (.inr (.inr rfl)) k1 k2 k3]
  simp [contOK, ha1, ha2, hb1, hb2, hd1, hd2, validD_nil]
theorem lead_split (c : UInt8) (l : List UInt8) (hc : 128 ≤ c.toNat) (hv : validD (c :: l) = true) : ∃ cs l2, l = cs ++ l2 ∧ Tail c cs ∧ validD l2 = true := by
  have c0 : ¬ c.toNat < 128 := by omega
  by_cases c1 : c.toNat < 194
  · rw [valid_bad c l hc (by simp [firstT, c0, c1])] at hv; cases hv
  by_cases c2 : c.toNat < 224
  · exact split1 hc (by omega) c2 (Nat.le_refl 128) (Nat.le_refl 191) (by simp [firstT, c0, c1, c2]) (by simp [firstT, accLo, c0, c1, c2]) (by simp [firstT, accHi, c0, c1, c2]) hv
  by_cases c3 : c.toNat = 224
  · exact split2 (lo := 160) (hi := 191) hc (by omega) (by omega) (by omega) (by omega) (by omega) (by omega) (by rw [c3]; decide) (by rw [c3]; decide) (by rw [c3]; decide) hv
  by_cases c4 : c.toNat < 237
  · exact split2 (lo := 128) (hi := 191) hc (by omega) (by omega) (by omega) (by omega) (by omega) (by omega) (by simp [firstT, c0, c1, c2, c3, c4]) (by simp [firstT, accLo, c0, c1, c2, c3, c4]) (by simp [firstT, accHi, c0, c1, c2, c3, c4]) hv
  by_cases c5 : c.toNat = 237
  · exact split2 (lo := 128) (hi := 159) hc (by omega) (by omega) (by omega) (by omega) (by omega) (by omega) (by rw [c5]; decide) (by rw [c5]; decide) (by rw [c5]; decide) hv
  by_cases c6 : c.toNat < 240
  · exact split2 (lo := 128) (hi := 191) hc (by omega) (by omega) (by omega) (by omega) (by omega) (by omega) (by simp [firstT, c0, c1, c2, c3, c4, c5, c6]) (by simp [firstT, accLo, c0, c1, c2, c3, c4, c5, c6]) (by simp [firstT, accHi, c0, c1, c2, c3, c4, c5, c6]) hv
  by_cases c7 : c.toNat = 240
  · exact split3 (lo := 144) (hi := 191) hc (by omega) (by omega) (by omega) (by omega) (by omega) (by omega) (by rw [c7]; decide) (by rw [c7]; decide) (by rw [c7]; decide) hv
  by_cases c8 : c.toNat < 244
  · exact split3 (lo := 128) (hi := 191) hc (by omega) (by omega) (by omega) (by omega) (by omega) (by omega) (by simp [firstT, c0, c1, c2, c3, c4, c5, c6, c7, c8]) (by simp [firstT, accLo, c0, c1, c2, c3, c4, c5, c6, c7, c8]) (by simp [firstT, accHi, c0, c1, c2, c3, c4, c5, c6, c7, c8]) hv
  by_cases c9 : c.toNat = 244
  · exact split3 (lo := 128) (hi := 143) hc (by omega) (by omega) (by omega) (by omega) (by omega) (by omega) (by rw [c9]; decide) (by rw [c9]; decide) (by rw [c9]; decide) hv
  · rw [valid_bad c l hc (by simp [firstT, c0, c1, c2, c3, c4, c5, c6, c7, c8, c9])] at hv; cases hv
end Go.Proofs.YtfhhmajkacjbgaaDoor
