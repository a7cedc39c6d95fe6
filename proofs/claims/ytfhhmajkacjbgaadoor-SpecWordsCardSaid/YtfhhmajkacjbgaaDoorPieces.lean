/-
  What Quote writes is what Unquote reads, piece by piece; the document's example.
-/
import Derived.Test.YtfhhmajkacjbgaaDoorRead4
import Derived.Test.YtfhhmajkacjbgaaDoorChars
import Derived.Test.YtfhhmajkacjbgaaDoorQuote2
namespace Go.Proofs.YtfhhmajkacjbgaaDoor
open Go.ChangeShapes Go.WideShapes Go.ChangeAt Go.RowKit
attribute [local go_sem ↓] Go.wp_at_zero Go.wp_at_succ
variable {w : World}

theorem item_plain (c : UInt8) (cs : List UInt8) (h0 : 32 ≤ c.toNat) (h34 : c.toNat ≠ 34) (h92 : c.toNat ≠ 92) (h : Tail c cs) : Item (c :: cs) (c :: cs) :=
  ⟨⟨c, cs, rfl, h34⟩, fun b rest v text w hT hl hr => char_plain b c cs rest v text w hT h0 h92 (h.dec rest) h.valid (by have := h.len; simp; omega) hl hr⟩
theorem item_esc {y : UInt8} {m : List UInt8} (hE : ∀ (b : Nat) (rest : List UInt8) (v : Value) (text : List UInt8) (w : World), text.length ≤ 1000000 → Rdr w b (y :: rest) v text → Calls Tryd.prog 83 #[.pointer (some ⟨b, 0, none⟩)] w (Reads w b rest (text ++ m) 0)) : Item [92, y] m :=
  ⟨⟨92, [y], rfl, by decide⟩, fun b rest v text w _ hl hr => char_esc b (y :: rest) rest v text (text ++ m) w hr (fun W h => hE b rest v text W (by omega) h)⟩
theorem item_u {ds m : List UInt8} (h4 : ds.length = 4) (hd : ∀ c ∈ ds, isDig c) (h0 : 0 ≤ valD ds) (h1 : valD ds < 55296) (hm : Lib.runeCells (valD ds) = vals m) (hm0 : 0 < m.length) : Item (92 :: 117 :: ds) m :=
  ⟨⟨92, 117 :: ds, rfl, by decide⟩, fun b rest v text w _ hl hr => char_esc b (117 :: (ds ++ rest)) rest v text (text ++ m) w hr (fun W h => escape_u b (ds ++ rest) rest v text (text ++ m) W h (fun W2 h2 => byNumber_any b ds rest v text m W2 h4 hd h0 h1 hm hm0 (by omega) h2))⟩
theorem hexB_dig (n : Nat) (h : n < 16) : isDig (hexB n) ∧ dv (hexB n) = n := by
  by_cases hc : n < 10
  · have := hexB_lo n hc
    refine ⟨.inl (by omega), ?_⟩
    rw [dv, if_pos (by omega)]; omega
  · have := hexB_hi n (by omega) h
    refine ⟨.inr (by omega), ?_⟩
    rw [dv, if_neg (by omega)]; omega
theorem tail_nil (c : UInt8) (h : c.toNat < 128) : Tail c [] :=
  ⟨by simp, by rw [Lib.validD_cons _ _ h]; rfl, by simp, fun rest => by
    rw [dec_bs _ (by simp)]
    show (Lib.decodeN _ c.toNat _ _ _).2 = 1
    simp [Lib.decodeN, h]⟩
theorem item_q (c : UInt8) (h : c.toNat < 128) : Item (qB c) [c] := by
  by_cases h34 : c.toNat = 34
  · obtain rfl := c_of h34
    exact item_esc escape_34
  by_cases h92 : c.toNat = 92
  · obtain rfl := c_of h92
    exact item_esc escape_92
  by_cases h10 : c.toNat = 10
  · obtain rfl := c_of h10
    exact item_esc escape_110
  by_cases h13 : c.toNat = 13
  · obtain rfl := c_of h13
    exact item_esc escape_114
  by_cases h9 : c.toNat = 9
  · obtain rfl := c_of h9
    exact item_esc escape_116
  by_cases h8 : c.toNat = 8
  · obtain rfl := c_of h8
    exact item_esc escape_98
  by_cases h12 : c.toNat = 12
  · obtain rfl := c_of h12
    exact item_esc escape_102
  have ne : ∀ n : Nat, c.toNat ≠ n → n < 256 → ¬ c = UInt8.ofNat n := fun n h hn e => h (by rw [e, UInt8.toNat_ofNat']; omega)
  have e : qB c = if c.toNat < 32 then [92, 117, 48, 48, hexB (c.toNat / 16), hexB (c.toNat % 16)] else [c] := by
    rw [qB, if_neg (by rintro (h | h); exact ne 34 h34 (by omega) h; exact ne 92 h92 (by omega) h), if_neg (show ¬ c = 10 from ne 10 h10 (by omega)), if_neg (show ¬ c = 13 from ne 13 h13 (by omega)), if_neg (show ¬ c = 9 from ne 9 h9 (by omega)), if_neg (show ¬ c = 8 from ne 8 h8 (by omega)), if_neg (show ¬ c = 12 from ne 12 h12 (by omega))]
  rw [e]
  by_cases h32 : c.toNat < 32
  · rw [if_pos h32]
    have d1 := hexB_dig (c.toNat / 16) (by omega)
    have d2 := hexB_dig (c.toNat % 16) (by omega)
    have d0 : isDig 48 ∧ dv 48 = 0 := hexB_dig 0 (by omega)
    have hv : valD [48, 48, hexB (c.toNat / 16), hexB (c.toNat % 16)] = (c.toNat : Int) := by
      simp only [valD, List.foldl_cons, List.foldl_nil, d0.2, d1.2, d2.2]
      omega
    refine item_u rfl ?_ (by rw [hv]; omega) (by rw [hv]; omega) ?_ (by simp)
    · intro x hx
      simp only [List.mem_cons, List.not_mem_nil, or_false] at hx
      rcases hx with rfl | rfl | rfl | rfl
      · exact d0.1
      · exact d0.1
      · exact d1.1
      · exact d2.1
    · rw [hv]
      simp [Lib.runeCells, Lib.encodeRuneZ_one (show 0 ≤ (c.toNat : Int) by omega) (show (c.toNat : Int) ≤ 127 by omega), vals]
  · rw [if_neg h32]
    exact item_plain c [] (by omega) h34 h92 (tail_nil c h)
theorem qL_high : ∀ cs : List UInt8, (∀ b ∈ cs, 128 ≤ b.toNat) → qL cs = cs
  | [], _ => rfl
  | c :: cs, h => by
    have hc := h c (by simp)
    have n : ∀ d : UInt8, d.toNat < 128 → ¬ c = d := fun d hd e => by subst e; omega
    have e : qB c = [c] := by
      rw [qB, if_neg (by rintro (h | h); exact n 34 (by decide) h; exact n 92 (by decide) h), if_neg (n 10 (by decide)), if_neg (n 13 (by decide)), if_neg (n 9 (by decide)), if_neg (n 8 (by decide)), if_neg (n 12 (by decide)), if_neg (by omega)]
    have ih := qL_high cs (fun b hb => h b (by simp [hb]))
    show qB c ++ qL cs = c :: cs
    rw [e, ih]; rfl
theorem qL_app (l m : List UInt8) : qL (l ++ m) = qL l ++ qL m := by simp [qL]
/-- What is quoted is read as it was. -/
theorem un_q : ∀ (n : Nat) (l : List UInt8), l.length ≤ n → Lib.validD l = true → Un (qL l) l
  | _, [], _, _ => .nil
  | 0, _ :: _, h, _ => by simp at h
  | n + 1, c :: l, h, hv => by
    by_cases hc : c.toNat < 128
    · rw [Lib.validD_cons _ _ hc] at hv
      exact .step (qB c) [c] (qL l) l (item_q c hc) (un_q n l (by simp at h; omega) hv)
    · obtain ⟨cs, l2, rfl, ht, hv2⟩ := lead_split c l (by omega) hv
      have e : qL (c :: (cs ++ l2)) = (c :: cs) ++ qL l2 := by
        rw [← List.cons_append, qL_app, qL_high (c :: cs) (fun b hb => by
          rcases List.mem_cons.1 hb with rfl | hb
          · omega
          · exact ht.high b hb)]
      rw [e]
      exact .step (c :: cs) (c :: cs) (qL l2) l2 (item_plain c cs (by omega) (by omega) (by omega) ht) (un_q n l2 (by simp at h; omega) hv2)
theorem un_awake : Un [92, 117, 48, 48, 101, 57] [195, 169] := by
  have hv : valD [48, 48, 101, 57] = 233 := by decide
  exact .step [92, 117, 48, 48, 101, 57] [195, 169] [] [] (item_u rfl (by
    intro x hx
    simp only [List.mem_cons, List.not_mem_nil, or_false] at hx
    rcases hx with rfl | rfl | rfl | rfl <;> (unfold isDig; decide)) (by rw [hv]; decide) (by rw [hv]; decide) (by rw [hv]; rfl) (by decide)) .nil
/-- The document's example. -/
theorem awake_any (w : World) (hT : Tabs w) : Calls Tryd.prog 25 #[] w fun e w' => e = .returned (.bool true) ∧ Fresh w w' := by
  have HU : Hid (Calls Tryd.prog 43 #[.string ⟨#[34, 92, 117, 48, 48, 101, 57, 34]⟩] w fun e w' => e = .returned (.tuple #[.string ⟨#[195, 169]⟩, .int .i64 8, .int .i64 0]) ∧ Fresh w w') :=
    unquote_any [92, 117, 48, 48, 101, 57] [195, 169] [] w un_awake (by decide) (by decide) hT
  have HQ : Hid (∀ W, Calls Tryd.prog 44 #[.string ⟨#[97, 34, 10]⟩] W fun e w' => e = .returned (.string ⟨#[34, 97, 92, 34, 92, 110, 34]⟩) ∧ Fresh W w') := fun W => quote_any ⟨#[97, 34, 10]⟩ W (by decide)
  clear hT
  go_enter Tryd.func25, Tryd.ntmps25
  go_wp2_with fail
  refine HU.out.mono ?_
  rintro e w1 ⟨rfl, hf1⟩
  have HF1 := Lib.hid hf1
  clear hf1
  go_wp2_with fail
  refine (HQ.out _).mono ?_
  rintro e w2 ⟨rfl, hf2⟩
  have HF2 := Lib.hid (HF1.out.trans hf2)
  clear hf2
  go_wp2
  go_ret
  exact ⟨rfl, HF2.out⟩
end Go.Proofs.YtfhhmajkacjbgaaDoor
