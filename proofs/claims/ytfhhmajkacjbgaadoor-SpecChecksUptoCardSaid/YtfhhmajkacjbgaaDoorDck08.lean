/-
  Quote, by package utf and by the document: what a whole text is, quoted.
  What Quote writes is what Unquote reads, piece by piece; the document's example.
  The laws' Awake.
  slices.Equal at texts, ports and variables.
  Are two containers alike, by package spec?
  Are two rows of containers alike, by package spec; two pods?
-/
import Derived.Test.YtfhhmajkacjbgaaDoorDck04
import Derived.Test.YtfhhmajkacjbgaaDoorDck07
import Derived.Test.YtfhhmajkacjbgaaDoorDck03
import Derived.Test.YtfhhmajkacjbgaaDoorDck01
import Derived.Deep.QuietTactic
import Derived.BigQuiet
namespace Go.Proofs.YtfhhmajkacjbgaaDoor
open Go.ChangeShapes Go.WideShapes Go.ChangeAt Go.RowKit
attribute [local go_sem ↓] Go.wp_at_zero Go.wp_at_succ
variable {w : World}

set_option maxRecDepth 100000 in
set_option maxHeartbeats 4000000 in
theorem appq_34 (B : Nat) (v : Value) (l : List UInt8) (w : World) (h : Rd w B v l) : Calls Tryd.prog 71 #[v, .int .u8 34] w (Put w B l [92, 34]) := by
  obtain ⟨i0, hi, hz0, hz1, hz2⟩ := info_parts info5
  have H := Lib.hid h
  have hx := Lib.hid (show Lib.indexByte (⟨#[8, 12, 10, 13, 9]⟩ : ByteArray).data.toList (34 : Int).toNat.toUInt8 = -1 by decide)
  clear h
  go_enter Tryd.func71, Tryd.ntmps71
  go_wp2_with (first
    | (go_at_call 86; refine (idx_any _ _ _ _ hx.out).mono ?_; rintro e w' ⟨rfl, rfl⟩)
    | (at_builtin; refine wpList_append_lies _ rfl _ _ 101 rfl B 5 i0 (.int .u8 0) 1 1 Tryd.underlying101 hi hz0 hz1 hz2 rfl (by decide) v l.length (vals l) rfl (H.out.buf.alloc _) ⟨w.heap.size, 0, none⟩ 2 2 (vals [92, 34]) rfl rfl (news_at w _ _ rfl) (vals_one _) (by decide) (H.out.m1 (by decide)) (H.out.m2 (by decide)) H.out.m3 (w.heap.size + 1) (by simp) ?_; intro g cap w1 hown hgrow hat hlt; have HP := Lib.hid (put_of H.out.buf H.out.low rfl hown hgrow); clear hown hgrow hat hlt))
  go_ret
  exact HP.out
set_option maxRecDepth 100000 in
set_option maxHeartbeats 4000000 in
theorem appq_92 (B : Nat) (v : Value) (l : List UInt8) (w : World) (h : Rd w B v l) : Calls Tryd.prog 71 #[v, .int .u8 92] w (Put w B l [92, 92]) := by
  obtain ⟨i0, hi, hz0, hz1, hz2⟩ := info_parts info5
  have H := Lib.hid h
  have hx := Lib.hid (show Lib.indexByte (⟨#[8, 12, 10, 13, 9]⟩ : ByteArray).data.toList (92 : Int).toNat.toUInt8 = -1 by decide)
  clear h
  go_enter Tryd.func71, Tryd.ntmps71
  go_wp2_with (first
    | (go_at_call 86; refine (idx_any _ _ _ _ hx.out).mono ?_; rintro e w' ⟨rfl, rfl⟩)
    | (at_builtin; refine wpList_append_lies _ rfl _ _ 101 rfl B 5 i0 (.int .u8 0) 1 1 Tryd.underlying101 hi hz0 hz1 hz2 rfl (by decide) v l.length (vals l) rfl (H.out.buf.alloc _) ⟨w.heap.size, 0, none⟩ 2 2 (vals [92, 92]) rfl rfl (news_at w _ _ rfl) (vals_one _) (by decide) (H.out.m1 (by decide)) (H.out.m2 (by decide)) H.out.m3 (w.heap.size + 1) (by simp) ?_; intro g cap w1 hown hgrow hat hlt; have HP := Lib.hid (put_of H.out.buf H.out.low rfl hown hgrow); clear hown hgrow hat hlt))
  go_ret
  exact HP.out
theorem idx_none (c : UInt8) (h : 32 ≤ c.toNat) : Lib.indexByte (⟨#[8, 12, 10, 13, 9]⟩ : ByteArray).data.toList (c.toNat : Int).toNat.toUInt8 = -1 := by
  have e : (c.toNat : Int).toNat.toUInt8 = c := by simp
  rw [e]
  have n : ∀ d : UInt8, d.toNat < 32 → (d == c) = false := fun d hd => by
    rw [beq_eq_false_iff_ne]; intro e; subst e; omega
  show Lib.indexByte [8, 12, 10, 13, 9] c = -1
  simp [Lib.indexByte, n 8 (by decide), n 12 (by decide), n 10 (by decide), n 13 (by decide), n 9 (by decide)]
set_option maxRecDepth 100000 in
set_option maxHeartbeats 4000000 in
theorem appq_plain (c : UInt8) (h0 : 32 ≤ c.toNat) (h1 : c.toNat ≠ 34) (h2 : c.toNat ≠ 92) (B : Nat) (v : Value) (l : List UInt8) (w : World) (h : Rd w B v l) : Calls Tryd.prog 71 #[v, .int .u8 (c.toNat : Int)] w (Put w B l [c]) := by
  obtain ⟨i0, hi, hz0, hz1, hz2⟩ := info_parts info5
  have H := Lib.hid h
  have hx := Lib.hid (idx_none c h0)
  have e1 : ((c.toNat : Int) == 34) = false := by rw [beq_eq_false_iff_ne]; omega
  have e2 : ((c.toNat : Int) == 92) = false := by rw [beq_eq_false_iff_ne]; omega
  have e3 : ¬ (c.toNat : Int) < 32 := by omega
  clear h h0 h1 h2
  go_enter Tryd.func71, Tryd.ntmps71
  go_wp2_with (first
    | (go_at_call 86; refine (idx_any _ _ _ _ hx.out).mono ?_; rintro e w' ⟨rfl, rfl⟩)
    | (at_builtin; refine wpList_append_lies _ rfl _ _ 101 rfl B 5 i0 (.int .u8 0) 1 1 Tryd.underlying101 hi hz0 hz1 hz2 rfl (by decide) v l.length (vals l) rfl (H.out.buf.alloc _) ⟨w.heap.size, 0, none⟩ 1 1 (vals [c]) rfl rfl (news_at w _ _ rfl) (vals_one _) (by decide) (H.out.m1 (by decide)) (H.out.m2 (by decide)) H.out.m3 (w.heap.size + 1) (by simp) ?_; intro g cap w1 hown hgrow hat hlt; have HP := Lib.hid (put_of H.out.buf H.out.low rfl hown hgrow); clear hown hgrow hat hlt))
  go_ret
  exact HP.out
theorem appq_any (c : UInt8) (B : Nat) (v : Value) (l : List UInt8) (w : World) (h : Rd w B v l) : Calls Tryd.prog 71 #[v, .int .u8 (c.toNat : Int)] w (Put w B l (qB c)) := by
  by_cases h0 : 32 ≤ c.toNat
  · by_cases h1 : c.toNat = 34
    · obtain rfl := c_of h1
      exact appq_34 B v l w h
    by_cases h2 : c.toNat = 92
    · obtain rfl := c_of h2
      exact appq_92 B v l w h
    have e : qB c = [c] := by
      have n : ∀ d : UInt8, d.toNat < 32 → ¬ c = d := fun d hd e => by subst e; omega
      rw [qB, if_neg (by rintro (rfl | rfl); exact h1 rfl; exact h2 rfl), if_neg (n 10 (by decide)), if_neg (n 13 (by decide)), if_neg (n 9 (by decide)), if_neg (n 8 (by decide)), if_neg (n 12 (by decide)), if_neg (by omega)]
    rw [e]
    exact appq_plain c h0 h1 h2 B v l w h
  · have hn : c.toNat = 0 ∨ c.toNat = 1 ∨ c.toNat = 2 ∨ c.toNat = 3 ∨ c.toNat = 4 ∨ c.toNat = 5 ∨ c.toNat = 6 ∨ c.toNat = 7 ∨ c.toNat = 8 ∨ c.toNat = 9 ∨ c.toNat = 10 ∨ c.toNat = 11 ∨ c.toNat = 12 ∨ c.toNat = 13 ∨ c.toNat = 14 ∨ c.toNat = 15 ∨ c.toNat = 16 ∨ c.toNat = 17 ∨ c.toNat = 18 ∨ c.toNat = 19 ∨ c.toNat = 20 ∨ c.toNat = 21 ∨ c.toNat = 22 ∨ c.toNat = 23 ∨ c.toNat = 24 ∨ c.toNat = 25 ∨ c.toNat = 26 ∨ c.toNat = 27 ∨ c.toNat = 28 ∨ c.toNat = 29 ∨ c.toNat = 30 ∨ c.toNat = 31 := by omega
    rcases hn with h1 | h1 | h1 | h1 | h1 | h1 | h1 | h1 | h1 | h1 | h1 | h1 | h1 | h1 | h1 | h1 | h1 | h1 | h1 | h1 | h1 | h1 | h1 | h1 | h1 | h1 | h1 | h1 | h1 | h1 | h1 | h1
    all_goals obtain rfl := c_of h1
    · exact appq_0 B v l w h
    · exact appq_1 B v l w h
    · exact appq_2 B v l w h
    · exact appq_3 B v l w h
    · exact appq_4 B v l w h
    · exact appq_5 B v l w h
    · exact appq_6 B v l w h
    · exact appq_7 B v l w h
    · exact appq_8 B v l w h
    · exact appq_9 B v l w h
    · exact appq_10 B v l w h
    · exact appq_11 B v l w h
    · exact appq_12 B v l w h
    · exact appq_13 B v l w h
    · exact appq_14 B v l w h
    · exact appq_15 B v l w h
    · exact appq_16 B v l w h
    · exact appq_17 B v l w h
    · exact appq_18 B v l w h
    · exact appq_19 B v l w h
    · exact appq_20 B v l w h
    · exact appq_21 B v l w h
    · exact appq_22 B v l w h
    · exact appq_23 B v l w h
    · exact appq_24 B v l w h
    · exact appq_25 B v l w h
    · exact appq_26 B v l w h
    · exact appq_27 B v l w h
    · exact appq_28 B v l w h
    · exact appq_29 B v l w h
    · exact appq_30 B v l w h
    · exact appq_31 B v l w h
set_option maxRecDepth 100000 in
set_option maxHeartbeats 4000000 in
/-- Package utf's Quote. -/
theorem quote_any (s : ByteArray) (w : World) (hs : s.size ≤ 6000) : Calls Tryd.prog 44 #[.string s] w fun e w' => e = .returned (.string ⟨(quoted s.data.toList).toArray⟩) ∧ Fresh w w' := by
  obtain ⟨i0, hi, hz0, hz1, hz2⟩ := info_parts info5
  have hmk : (Instr.makeSlice 101 (.int .i64 0) (.int .i64 ((s.size : Int) + 2))).run Tryd.prog w = .ok (.slice (some ⟨w.heap.size, 0, none⟩) 0 (s.size + 2)) (w.alloc (.cells (madeCells #[.int .u8 0] (s.size + 2)) 5)) := by
    have := run_make (P := Tryd.prog) w 101 5 i0 (.int .u8 0) Tryd.underlying101 hi hz0 .i64 .i64 0 ((s.size : Int) + 2) (by omega) (by omega) (by rw [hz2]; omega) (by omega)
    rw [hz1, Nat.mul_one, show ((s.size : Int) + 2).toNat = s.size + 2 by omega] at this
    exact this
  have HM : Hid (Buf (w.alloc (.cells (madeCells #[.int .u8 0] (s.size + 2)) 5)) w.heap.size (.slice (some ⟨w.heap.size, 0, none⟩) 0 (s.size + 2)) []) :=
    World.ownsRow_made w _ (s.size + 2) (Nat.le_refl _) (by unfold maxLen; omega) (by rw [size_madeCells, Nat.mul_one])
  go_enter Tryd.func44, Tryd.ntmps44
  go_wp2_with (at_builtin; refine wpList_append_lies _ rfl _ _ 101 rfl w.heap.size 5 i0 (.int .u8 0) 1 1 Tryd.underlying101 hi hz0 hz1 hz2 rfl (by decide) (.slice (some ⟨w.heap.size, 0, none⟩) 0 (s.size + 2)) 0 (vals []) rfl (HM.out.alloc _) ⟨w.heap.size + 1, 0, none⟩ 1 1 (vals [34]) rfl rfl (by have := news_at (w.alloc (.cells (madeCells #[.int .u8 0] (s.size + 2)) 5)) #[.int .u8 34] [34] rfl; rw [World.size_alloc] at this; exact this) (vals_one _) (by decide) (by unfold maxLen; omega) (by omega) (by simp; omega) (w.heap.size + 1 + 1) (by simp) ?_; intro g cap w1 hown hgrow hat hlt; have HB1 := Lib.hid (show Buf w1 w.heap.size (.slice (some ⟨g, 0, none⟩) 1 cap) [34] from Buf.more (l := []) hown rfl); have HF1 := Lib.hid ((((Fresh.refl w).alloc _).alloc _).below (Below.grown (Below.refl w.heap.size _) hgrow (by simp; omega) (fun k e => by cases e; exact Nat.le_refl _)) (Nat.le_refl _)); clear hown hgrow hat hlt)
  clear hmk HM
  go_loopw [3, 13] (fun a3 a13 wr => ∃ g n cap k : Nat, k ≤ s.size ∧ a3 = .slice (some ⟨g, 0, none⟩) n cap ∧ a13 = .int .i64 k ∧ Hid (Buf wr w.heap.size (.slice (some ⟨g, 0, none⟩) n cap) (34 :: qL (s.data.toList.take k))) ∧ Hid (Fresh w wr)) (fun _ a13 _ => s.size - (intOf a13).toNat)
  case atStart => exact ⟨_, _, _, 0, Nat.zero_le _, rfl, rfl, HB1.out, HF1.out⟩
  case round =>
    obtain ⟨g, n, cap, k, hk, rfl, rfl, HB, HF⟩ := hrel
    clear HB1 HF1
    have HL : Hid ((34 :: qL (s.data.toList.take k)).length ≤ 60000) := by
      have h1 := qL_len (s.data.toList.take k)
      have h2 : (s.data.toList.take k).length ≤ k := List.length_take_le _ _
      rw [Hid, List.length_cons]; omega
    have HRD : Hid (Rd wr w.heap.size (.slice (some ⟨g, 0, none⟩) n cap) (34 :: qL (s.data.toList.take k))) := ⟨HB.out, HF.out.size, by have := HL.out; omega⟩
    by_cases hlt : k < s.size
    · have HT := Lib.hid (take_snoc s k hlt)
      go_wp2_with fail
      refine (appq_any _ w.heap.size _ _ _ HRD.out).mono ?_
      rintro e w2 ⟨g2, cap2, he, hb2, hf2⟩
      have hb3 : Buf w2 w.heap.size (.slice (some ⟨g2, 0, none⟩) ((34 :: qL (s.data.toList.take k)).length + (qB s[k]).length) cap2) (34 :: qL (s.data.toList.take (k + 1))) := by
        rw [HT.out, qL_snoc]; exact hb2
      clear hb2
      generalize (34 :: qL (s.data.toList.take k)).length + (qB s[k]).length = n2 at he hb3
      subst he
      have HB3 := Lib.hid hb3
      have HF3 := Lib.hid (HF.out.below hf2 (Nat.le_refl _))
      clear hb3 hf2
      go_wp2
      go_roundw
      case rel => exact ⟨g2, n2, cap2, k + 1, by omega, rfl, by go_num, HB3.out, HF3.out⟩
      case measure => simp [intOf]; omega
    · obtain rfl : k = s.size := by omega
      have HQ : Hid ((34 :: qL (s.data.toList.take s.size)) ++ [34] = quoted s.data.toList) := by
        rw [Hid, List.take_of_length_le (by simp), quoted]; rfl
      have hw1 := HF.out.size
      have HN : Hid (n = (34 :: qL (s.data.toList.take s.size)).length) := (Buf.text HB.out).1
      generalize 34 :: qL (s.data.toList.take s.size) = L at *
      obtain rfl : n = L.length := HN.out
      have hL := HL.out
      go_wp2_with (at_builtin; refine wpList_append_lies _ rfl _ _ 101 rfl w.heap.size 5 i0 (.int .u8 0) 1 1 Tryd.underlying101 hi hz0 hz1 hz2 rfl (by decide) (.slice (some ⟨g, 0, none⟩) L.length cap) L.length (vals L) rfl (HB.out.alloc _) ⟨wr.heap.size, 0, none⟩ 1 1 (vals [34]) rfl rfl (news_at wr _ _ rfl) (vals_one _) (by decide) (HRD.out.m1 (by decide)) (by omega) HRD.out.m3 (wr.heap.size + 1) (by simp) ?_; intro g2 cap2 w2 hown hgrow hat hlt2; have HB2 := Lib.hid (show Buf w2 w.heap.size (.slice (some ⟨g2, 0, none⟩) (L.length + 1) cap2) (L ++ [34]) from Buf.more hown rfl); have HF2 := Lib.hid ((HF.out.alloc _).below (Below.grown (Below.refl w.heap.size _) hgrow HRD.out.m3 (fun k e => (HB.out.lt k e).1)) (Nat.le_refl _)); clear hown hgrow hat hlt2; have hcv := (Buf.text HB2.out).2)
      go_ret
      exact ⟨ret_string (by rw [HQ.out]), HF2.out⟩
theorem hexB_lo (n : Nat) (h : n < 10) : ((hexB n).toNat : Int) = 48 + n := by
  unfold hexB
  rw [if_pos h, UInt8.toNat_ofNat']
  omega
theorem hexB_hi (n : Nat) (h : 10 ≤ n) (h2 : n < 16) : ((hexB n).toNat : Int) = 87 + n := by
  unfold hexB
  rw [if_neg (by omega), UInt8.toNat_ofNat']
  omega
end Go.Proofs.YtfhhmajkacjbgaaDoor
namespace Go.Proofs.YtfhhmajkacjbgaaDoor
open Go.ChangeShapes Go.WideShapes Go.ChangeAt Go.RowKit
attribute [local go_sem ↓] Go.wp_at_zero Go.wp_at_succ
variable {w : World}

theorem item_plain (c : UInt8) (cs : List UInt8) (h0 : 32 ≤ c.toNat) (h34 : c.toNat ≠ 34) (h92 : c.toNat ≠ 92) (h : Tail c cs) : Item (c :: cs) (c :: cs) :=
  ⟨⟨c, cs, rfl, h34⟩, fun b rest v text w hT hl hr => char_plain b c cs rest v text w hT h0 h92 (h.dec rest) h.valid (by have := h.len; simp; omega) hl hr⟩
theorem item_esc {y : UInt8} {m : List UInt8} (hE : ∀ (b : Nat) (rest : List UInt8) (v : Value) (text : List UInt8) (w : World), text.length ≤ 1000000 → Rdr w b (y :: rest) v text → Calls Tryd.prog 83 #[.pointer (some ⟨b, 0, none⟩)] w (Reads w b rest (text ++ m) 0)) : Item [92, y] m :=
  ⟨⟨92, [y], rfl, by decide⟩, fun b rest v text w _ hl hr => char_esc b (y :: rest) rest v text (text ++ m) w hr (fun W h => hE b rest v text W (by omega) h)⟩
theorem item_u {ds m : List UInt8} (h4 : ds.length = 4) (hd : ∀ c ∈ ds, isDig c) (h0 : 0 ≤ valD ds) (h1 : valD ds < 55296) (hm : Lib.runeCells (valD ds) = vals m) (hm0 : 0 < m.length) : Item (92 :: 117 :: ds) m :=
  ⟨⟨92, 117 :: ds, rfl, by decide⟩, fun b rest v text w _ hl hr => char_esc b (117 :: (ds ++ rest)) rest v text (text ++ m) w hr (fun W h => escape_u b (ds ++ rest) rest v text (text ++ m) W h (fun W2 h2 => byNumber_any b ds rest v text m W2 h4 hd h0 h1 hm hm0 (by omega) h2))⟩
theorem hexB_dig (n : Nat) (h : n < 16) : isDig (hexB n) ∧ dv (hexB n) = n := by
  by_cases hc : n < 10
  · have := hexB_lo n hc
    refine ⟨.inl (by omega), ?_⟩
    rw [dv, if_pos (by omega)]; omega
  · have := hexB_hi n (by omega) h
    refine ⟨.inr (by omega), ?_⟩
    rw [dv, if_neg (by omega)]; omega
theorem tail_nil (c : UInt8) (h : c.toNat < 128) : Tail c [] :=
  ⟨by simp, by rw [Lib.validD_cons _ _ h]; rfl, by simp, fun rest => by
    rw [dec_bs _ (by simp)]
    show (Lib.decodeN _ c.toNat _ _ _).2 = 1
    simp [Lib.decodeN, h]⟩
theorem item_q (c : UInt8) (h : c.toNat < 128) : Item (qB c) [c] := by
  by_cases h34 : c.toNat = 34
  · obtain rfl := c_of h34
    exact item_esc escape_34
  by_cases h92 : c.toNat = 92
  · obtain rfl := c_of h92
    exact item_esc escape_92
  by_cases h10 : c.toNat = 10
  · obtain rfl := c_of h10
    exact item_esc escape_110
  by_cases h13 : c.toNat = 13
  · obtain rfl := c_of h13
    exact item_esc escape_114
  by_cases h9 : c.toNat = 9
  · obtain rfl := c_of h9
    exact item_esc escape_116
  by_cases h8 : c.toNat = 8
  · obtain rfl := c_of h8
    exact item_esc escape_98
  by_cases h12 : c.toNat = 12
  · obtain rfl := c_of h12
    exact item_esc escape_102
  have ne : ∀ n : Nat, c.toNat ≠ n → n < 256 → ¬ c = UInt8.ofNat n := fun n h hn e => h (by rw [e, UInt8.toNat_ofNat']; omega)
  have e : qB c = if c.toNat < 32 then [92, 117, 48, 48, hexB (c.toNat / 16), hexB (c.toNat % 16)] else [c] := by
    rw [qB, if_neg (by rintro (h | h); exact ne 34 h34 (by omega) h; exact ne 92 h92 (by omega) h), if_neg (show ¬ c = 10 from ne 10 h10 (by omega)), if_neg (show ¬ c = 13 from ne 13 h13 (by omega)), if_neg (show ¬ c = 9 from ne 9 h9 (by omega)), if_neg (show ¬ c = 8 from ne 8 h8 (by omega)), if_neg (show ¬ c = 12 from ne 12 h12 (by omega))]
  rw [e]
  by_cases h32 : c.toNat < 32
  · rw [if_pos h32]
    have d1 := hexB_dig (c.toNat / 16) (by omega)
    have d2 := hexB_dig (c.toNat % 16) (by omega)
    have d0 : isDig 48 ∧ dv 48 = 0 := hexB_dig 0 (by omega)
    have hv : valD [48, 48, hexB (c.toNat / 16), hexB (c.toNat % 16)] = (c.toNat : Int) := by
      simp only [valD, List.foldl_cons, List.foldl_nil, d0.2, d1.2, d2.2]
      omega
    refine item_u rfl ?_ (by rw [hv]; omega) (by rw [hv]; omega) ?_ (by simp)
    · intro x hx
      simp only [List.mem_cons, List.not_mem_nil, or_false] at hx
      rcases hx with rfl | rfl | rfl | rfl
      · exact d0.1
      · exact d0.1
      · exact d1.1
      · exact d2.1
    · rw [hv]
      simp [Lib.runeCells, Lib.encodeRuneZ_one (show 0 ≤ (c.toNat : Int) by omega) (show (c.toNat : Int) ≤ 127 by omega), vals]
  · rw [if_neg h32]
    exact item_plain c [] (by omega) h34 h92 (tail_nil c h)
theorem qL_high : ∀ cs : List UInt8, (∀ b ∈ cs, 128 ≤ b.toNat) → qL cs = cs
  | [], _ => rfl
  | c :: cs, h => by
    have hc := h c (by simp)
    have n : ∀ d : UInt8, d.toNat < 128 → ¬ c = d := fun d hd e => by subst e; omega
    have e : qB c = [c] := by
      rw [qB, if_neg (by rintro (h | h); exact n 34 (by decide) h; exact n 92 (by decide) h), if_neg (n 10 (by decide)), if_neg (n 13 (by decide)), if_neg (n 9 (by decide)), if_neg (n 8 (by decide)), if_neg (n 12 (by decide)), if_neg (by omega)]
    have ih := qL_high cs (fun b hb => h b (by simp [hb]))
    show qB c ++ qL cs = c :: cs
    rw [e, ih]; rfl
theorem qL_app (l m : List UInt8) : qL (l ++ m) = qL l ++ qL m := by simp [qL]
/-- What is quoted is read as it was. -/
theorem un_q : ∀ (n : Nat) (l : List UInt8), l.length ≤ n → Lib.validD l = true → Un (qL l) l
  | _, [], _, _ => .nil
  | 0, _ :: _, h, _ => by simp at h
  | n + 1, c :: l, h, hv => by
    by_cases hc : c.toNat < 128
    · rw [Lib.validD_cons _ _ hc] at hv
      exact .step (qB c) [c] (qL l) l (item_q c hc) (un_q n l (by simp at h; omega) hv)
    · obtain ⟨cs, l2, rfl, ht, hv2⟩ := lead_split c l (by omega) hv
      have e : qL (c :: (cs ++ l2)) = (c :: cs) ++ qL l2 := by
        rw [← List.cons_append, qL_app, qL_high (c :: cs) (fun b hb => by
          rcases List.mem_cons.1 hb with rfl | hb
          · omega
          · exact ht.high b hb)]
      rw [e]
      exact .step (c :: cs) (c :: cs) (qL l2) l2 (item_plain c cs (by omega) (by omega) (by omega) ht) (un_q n l2 (by simp at h; omega) hv2)
theorem un_awake : Un [92, 117, 48, 48, 101, 57] [195, 169] := by
  have hv : valD [48, 48, 101, 57] = 233 := by decide
  exact .step [92, 117, 48, 48, 101, 57] [195, 169] [] [] (item_u rfl (by
    intro x hx
    simp only [List.mem_cons, List.not_mem_nil, or_false] at hx
    rcases hx with rfl | rfl | rfl | rfl <;> (unfold isDig; decide)) (by rw [hv]; decide) (by rw [hv]; decide) (by rw [hv]; rfl) (by decide)) .nil
/-- The document's example. -/
theorem awake_any (w : World) (hT : Tabs w) : Calls Tryd.prog 25 #[] w fun e w' => e = .returned (.bool true) ∧ Fresh w w' := by
  have HU : Hid (Calls Tryd.prog 43 #[.string ⟨#[34, 92, 117, 48, 48, 101, 57, 34]⟩] w fun e w' => e = .returned (.tuple #[.string ⟨#[195, 169]⟩, .int .i64 8, .int .i64 0]) ∧ Fresh w w') :=
    unquote_any [92, 117, 48, 48, 101, 57] [195, 169] [] w un_awake (by decide) (by decide) hT
  have HQ : Hid (∀ W, Calls Tryd.prog 44 #[.string ⟨#[97, 34, 10]⟩] W fun e w' => e = .returned (.string ⟨#[34, 97, 92, 34, 92, 110, 34]⟩) ∧ Fresh W w') := fun W => quote_any ⟨#[97, 34, 10]⟩ W (by decide)
  clear hT
  go_enter Tryd.func25, Tryd.ntmps25
  go_wp2_with fail
  refine HU.out.mono ?_
  rintro e w1 ⟨rfl, hf1⟩
  have HF1 := Lib.hid hf1
  clear hf1
  go_wp2_with fail
  refine (HQ.out _).mono ?_
  rintro e w2 ⟨rfl, hf2⟩
  have HF2 := Lib.hid (HF1.out.trans hf2)
  clear hf2
  go_wp2
  go_ret
  exact ⟨rfl, HF2.out⟩
end Go.Proofs.YtfhhmajkacjbgaaDoor
namespace Go.Proofs.YtfhhmajkacjbgaaDoor
open Go.ChangeShapes Go.WideShapes Go.ChangeAt Go.RowKit
attribute [local go_sem ↓] Go.wp_at_zero Go.wp_at_succ

theorem var13_any (w : World) : Calls Tryd.prog 45 #[.string ⟨#[95, 88]⟩] w fun e w' => e = .returned (.bool true) ∧ w = w' := variable_any ⟨#[95, 88]⟩ w (by decide)
theorem awake13_any (w : World) : Calls Tryd.prog 26 #[] w fun e w' => e = .returned (.bool true) ∧ Fresh w w' := by
  have HL1 : Hid (∀ W, Calls Tryd.prog 28 #[.string ⟨#[97, 45, 49]⟩] W fun e w' => e = .returned (.bool true) ∧ W = w') := fun W => label_any ⟨#[97, 45, 49]⟩ W (by decide)
  have HL2 : Hid (∀ W, Calls Tryd.prog 28 #[.string ⟨#[45, 97]⟩] W fun e w' => e = .returned (.bool false) ∧ W = w') := fun W => label_any ⟨#[45, 97]⟩ W (by decide)
  have HN : Hid (∀ W, Calls Tryd.prog 27 #[.string ⟨#[97, 46, 98, 45, 99]⟩] W fun e w' => e = .returned (.bool true) ∧ Fresh W w') := fun W => name_any [97, 46, 98, 45, 99] W (by decide)
  have HV := Lib.hid (fun W => var13_any W)
  go_enter Tryd.func26, Tryd.ntmps26
  go_wp2_with (fail)
  refine (HL1.out _).mono ?_
  rintro e w' ⟨rfl, rfl⟩
  go_wp2_with (fail)
  refine (HL2.out _).mono ?_
  rintro e w' ⟨rfl, rfl⟩
  go_wp2_with (fail)
  refine (HN.out _).mono ?_
  rintro e w1 ⟨rfl, hf⟩
  go_wp2_with (fail)
  refine (HV.out _).mono ?_
  rintro e w' ⟨rfl, rfl⟩
  go_wp2
  go_ret
  exact ⟨rfl, hf⟩
/-- The document's pod. -/
def exC : Ct := ⟨⟨#[99]⟩, ⟨#[110, 103, 105, 110, 120]⟩, [], [], 0, 0, []⟩
def exPd : Pd := ⟨⟨#[119, 101, 98]⟩, ⟨#[]⟩, 0, 0, false, [exC]⟩
def exM : CM := ⟨exC, none, 0, none, 0, none, 0⟩
def exP (a : Option Addr) : PM := ⟨⟨#[119, 101, 98]⟩, ⟨#[]⟩, 0, 0, false, a, 1, [exM]⟩
theorem exP_pd (a : Option Addr) : (exP a).pd = exPd := rfl
theorem ex_bad : podE exPd = 13 := by decide +kernel
theorem ex_good : podE (defP exPd) = 0 := by decide +kernel
theorem exC_low : exC.Low where
  name := by decide
  image := by decide
  lc := by decide
  lp := by decide
  le := by decide
  cmd := fun s h => by cases h
  env := fun s h => by cases h
  icpu := by decide
  imem := by decide
  ip := fun s h => by cases h
theorem exP_low (a : Option Addr) : (exP a).Low where
  name := by show ByteArray.size ⟨#[119, 101, 98]⟩ ≤ _; decide
  ns := by show ByteArray.size ⟨#[]⟩ ≤ _; decide
  ir := by show (Lit.int .i64 0).wf = true; decide
  ig := by show (Lit.int .i64 0).wf = true; decide
  len := by show 1 ≤ _; decide
  cs := fun m hm => by rw [List.mem_singleton.1 hm]; exact exC_low
theorem exC_sml : exC.Sml where
  name := by decide
  image := by decide
  lc := by decide
  lp := by decide
  le := by decide
  cmd := fun s h => by cases h
  env := fun s h => by cases h
theorem defC_sml {c : Ct} (h : c.Sml) : (defC c).Sml := ⟨h.name, h.image, h.lc, h.lp, h.le, h.cmd, h.env⟩
set_option maxRecDepth 100000 in
theorem example_any (w : World) : Calls Tryd.prog 24 #[] w fun e w' => ∃ a, e = .returned (exP a).val ∧ (exP a).At w' ∧ Fresh w w' := by
  go_enter Tryd.func24, Tryd.ntmps24
  go_wp2
  have h1 := at_alloc (p := .cells #[.string ⟨#[99]⟩, .string ⟨#[110, 103, 105, 110, 120]⟩, .slice none 0 0, .slice none 0 0, .int .i64 0, .int .i64 0, .slice none 0 0] 53) (at_new w (.cells #[.string ⟨#[119, 101, 98]⟩, .string ⟨#[]⟩, .int .i64 0, .int .i64 0, .bool false, .slice (some ⟨w.heap.size + 1, 0, none⟩) 1 1] 25))
  have h2 := at_new (w.alloc (.cells #[.string ⟨#[119, 101, 98]⟩, .string ⟨#[]⟩, .int .i64 0, .int .i64 0, .bool false, .slice (some ⟨w.heap.size + 1, 0, none⟩) 1 1] 25)) (.cells #[.string ⟨#[99]⟩, .string ⟨#[110, 103, 105, 110, 120]⟩, .slice none 0 0, .slice none 0 0, .int .i64 0, .int .i64 0, .slice none 0 0] 53)
  rw [World.size_alloc] at h2
  have h3 := ((Fresh.refl w).alloc (.cells #[.string ⟨#[119, 101, 98]⟩, .string ⟨#[]⟩, .int .i64 0, .int .i64 0, .bool false, .slice (some ⟨w.heap.size + 1, 0, none⟩) 1 1] 25)).alloc (.cells #[.string ⟨#[99]⟩, .string ⟨#[110, 103, 105, 110, 120]⟩, .slice none 0 0, .slice none 0 0, .int .i64 0, .int .i64 0, .slice none 0 0] 53)
  generalize (w.alloc (.cells #[.string ⟨#[119, 101, 98]⟩, .string ⟨#[]⟩, .int .i64 0, .int .i64 0, .bool false, .slice (some ⟨w.heap.size + 1, 0, none⟩) 1 1] 25)).alloc (.cells #[.string ⟨#[99]⟩, .string ⟨#[110, 103, 105, 110, 120]⟩, .slice none 0 0, .slice none 0 0, .int .i64 0, .int .i64 0, .slice none 0 0] 53) = W at *
  obtain ⟨⟨q0, q1, q2, q3, q4, q5⟩, _⟩ := box6p h1
  refine bodyPost_ret (v := (exP (some ⟨w.heap.size + 1, 0, none⟩)).val) (by simp [results, Tryd.f24, go_sem, exP, PM.val, *]) rfl ⟨_, rfl, ⟨?_, ?_, ?_⟩, h3⟩
  · refine .inr ⟨_, 0, rfl, fun j x hj => ?_⟩
    rw [Nat.zero_add]
    exact cell_of_at h2 (by simpa [ccells, CM.cells, exP, exM, exC] using hj)
  · intro m hm
    rw [List.mem_singleton.1 hm]
    exact ⟨.nil _ _, .nil _ _, .nil _ _, Nat.le_refl _⟩
  · exact Nat.le_refl _
theorem q_parts {q : PM} (h : q.pd = defP exPd) : ∃ a cap ca cc pa pc ea ec, q = ⟨⟨#[119, 101, 98]⟩, nsDef, 0, 30, false, a, cap, [⟨⟨⟨#[99]⟩, ⟨#[110, 103, 105, 110, 120]⟩, [], [], 100, 64, []⟩, ca, cc, pa, pc, ea, ec⟩]⟩ := by
  obtain ⟨name, ns, rs, gr, ho, a, cap, cs⟩ := q
  have h2 : Pd.mk name ns rs gr ho (cs.map (·.c)) = ⟨⟨#[119, 101, 98]⟩, nsDef, 0, 30, false, [⟨⟨#[99]⟩, ⟨#[110, 103, 105, 110, 120]⟩, [], [], 100, 64, []⟩]⟩ := h
  simp only [Pd.mk.injEq] at h2
  obtain ⟨rfl, rfl, rfl, rfl, rfl, h3⟩ := h2
  match cs, h3 with
  | [m], h3 =>
    obtain ⟨c, ca, cc, pa, pc, ea, ec⟩ := m
    simp only [List.map_cons, List.map_nil, List.cons.injEq, and_true] at h3
    subst h3
    exact ⟨a, cap, ca, cc, pa, pc, ea, ec, rfl⟩
  | [], h3 => simp at h3
  | _ :: _ :: _, h3 => simp at h3
theorem exDef_sml : (defP exPd).Sml where
  name := by show ByteArray.size ⟨#[119, 101, 98]⟩ ≤ _; decide
  ns := by show ByteArray.size nsDef ≤ _; decide
  len := by show 1 ≤ _; decide
  cs := fun c hc => by
    have : c = defC exC := List.mem_singleton.1 hc
    rw [this]; exact defC_sml exC_sml
theorem ex_sml : exPd.Sml where
  name := by show ByteArray.size ⟨#[119, 101, 98]⟩ ≤ _; decide
  ns := by show ByteArray.size ⟨#[]⟩ ≤ _; decide
  len := by show 1 ≤ _; decide
  cs := fun c hc => by
    have : c = exC := List.mem_singleton.1 hc
    rw [this]; exact exC_sml
set_option maxRecDepth 100000 in
set_option maxHeartbeats 2000000 in
theorem awake14_any (w : World) (hT : Tabs w) : Calls Tryd.prog 7 #[] w fun e w' => e = .returned (.bool true) ∧ Fresh w w' := by
  have HT := Lib.hid hT
  have HEX := Lib.hid (fun W => example_any W)
  have HA6 := Lib.hid (fun W (f : Fresh w W) => awake_any W (HT.out.move f))
  have HA13 := Lib.hid (fun W => awake13_any W)
  clear hT
  go_enter Tryd.func7, Tryd.ntmps7
  go_wp2_with (fail)
  refine (HEX.out _).mono ?_
  rintro e W1 ⟨a, rfl, hat, hf⟩
  have HDF := Lib.hid (default_any (exP a) W1 hat (exP_low a))
  have HF1 := Lib.hid hf
  clear hat hf
  rw [show (exP a).val = .agg #[.string ⟨#[119, 101, 98]⟩, .string ⟨#[]⟩, .int .i64 0, .int .i64 0, .bool false, .slice a 1 1] from rfl] at HDF ⊢
  go_wp2_with (fail)
  refine HDF.out.mono ?_
  rintro e W2 ⟨q, rfl, hpd, hq, hf2⟩
  replace hpd : q.pd = defP exPd := hpd
  have HF2 := Lib.hid (HF1.out.trans hf2)
  have hat := hq.at
  have HC1 := Lib.hid (fun W (f : Fresh W2 W) => check_any q W (HT.out.move (HF2.out.trans f)) (hat.move f) (by rw [hpd]; exact exDef_sml) (fun m hm => (hq.ins m hm).inn.room))
  rw [hpd, ex_good] at HC1
  obtain ⟨a2, cap, ca, cc, pa, pc, ea, ec, rfl⟩ := q_parts hpd
  have HR := Lib.hid (hq.row)
  clear hpd hq hf2 hat HDF
  rw [show (PM.mk ⟨#[119, 101, 98]⟩ nsDef 0 30 false a2 cap [⟨⟨⟨#[99]⟩, ⟨#[110, 103, 105, 110, 120]⟩, [], [], 100, 64, []⟩, ca, cc, pa, pc, ea, ec⟩]).val = .agg #[.string ⟨#[119, 101, 98]⟩, .string ⟨#[100, 101, 102, 97, 117, 108, 116]⟩, .int .i64 0, .int .i64 30, .bool false, .slice a2 1 cap] from rfl] at HC1 ⊢
  have HR1 : Hid (W2.ownsRow W1.heap.size 53 7 (.slice a2 1 cap) 1 [.string ⟨#[99]⟩, .string ⟨#[110, 103, 105, 110, 120]⟩, .slice ca 0 cc, .slice pa 0 pc, .int .i64 100, .int .i64 64, .slice ea 0 ec]) := HR.out
  obtain ⟨g, rfl, hgb, hcap⟩ := own_form HR1.out (i := 0) (by omega)
  have hc4 : W2.cell? ⟨g, 4, none⟩ = some (.int .i64 100) := (World.ownsRow.cellAt HR1.out 4 (by omega)).trans rfl
  have hc5 : W2.cell? ⟨g, 5, none⟩ = some (.int .i64 64) := (World.ownsRow.cellAt HR1.out 5 (by omega)).trans rfl
  have HB := Lib.hid (at_new W2 (.cells #[.string ⟨#[119, 101, 98]⟩, .string ⟨#[100, 101, 102, 97, 117, 108, 116]⟩, .int .i64 0, .int .i64 30, .bool false, .slice (some ⟨g, 0, none⟩) 1 cap] 25))
  have HFB := Lib.hid ((Fresh.refl W2).alloc (.cells #[.string ⟨#[119, 101, 98]⟩, .string ⟨#[100, 101, 102, 97, 117, 108, 116]⟩, .int .i64 0, .int .i64 30, .bool false, .slice (some ⟨g, 0, none⟩) 1 cap] 25))
  have HC45 : Hid (∀ W, Fresh W2 W → W.cell? ⟨g, 4, none⟩ = some (.int .i64 100) ∧ W.cell? ⟨g, 5, none⟩ = some (.int .i64 64)) := fun W f => ⟨f.cell hc4, f.cell hc5⟩
  clear hc4 hc5 HR HR1
  go_wp2_with (fail)
  generalize W2.alloc (.cells #[.string ⟨#[119, 101, 98]⟩, .string ⟨#[100, 101, 102, 97, 117, 108, 116]⟩, .int .i64 0, .int .i64 30, .bool false, .slice (some ⟨g, 0, none⟩) 1 cap] 25) = W3 at *
  obtain ⟨b, hb⟩ : ∃ b, b = W2.heap.size := ⟨_, rfl⟩
  rw [← hb] at HB ⊢
  clear hb
  refine (HA6.out _ (HF2.out.trans HFB.out)).mono ?_
  rintro e W4 ⟨rfl, hf⟩
  have HF4 := Lib.hid hf
  clear hf
  go_wp2_with (fail)
  refine (HA13.out _).mono ?_
  rintro e W5 ⟨rfl, hf⟩
  have HF5 := Lib.hid (HF4.out.trans hf)
  clear hf HF4
  obtain ⟨⟨q0, q1, q2, q3, q4, q5⟩, _⟩ := box6p (HF5.out.at HB.out)
  go_wp2_with (fail)
  refine (HC1.out _ (HFB.out.trans HF5.out)).mono ?_
  rintro e W6 ⟨rfl, hf⟩
  have HF6 := Lib.hid (HF5.out.trans hf)
  clear hf HF5 q0 q1 q2 q3 q4 q5
  obtain ⟨⟨q0, q1, q2, q3, q4, q5⟩, _⟩ := box6p (HF6.out.at HB.out)
  obtain ⟨r4, r5⟩ := HC45.out _ (HFB.out.trans HF6.out)
  go_wp2_with (fail)
  refine (HEX.out _).mono ?_
  rintro e W7 ⟨a3, rfl, hat, hf⟩
  have HF7 := Lib.hid (HF6.out.trans hf)
  have HC2 := Lib.hid (check_any (exP a3) W7 (HT.out.move ((HF2.out.trans HFB.out).trans HF7.out)) hat (by rw [exP_pd]; exact ex_sml) (fun m hm => by rw [List.mem_singleton.1 hm]; exact Nat.le_refl _))
  rw [exP_pd, ex_bad, show (exP a3).val = .agg #[.string ⟨#[119, 101, 98]⟩, .string ⟨#[]⟩, .int .i64 0, .int .i64 0, .bool false, .slice a3 1 1] from rfl] at HC2
  rw [show (exP a3).val = .agg #[.string ⟨#[119, 101, 98]⟩, .string ⟨#[]⟩, .int .i64 0, .int .i64 0, .bool false, .slice a3 1 1] from rfl]
  clear hf hat q0 q1 q2 q3 q4 q5 r4 r5
  go_wp2_with (fail)
  refine HC2.out.mono ?_
  rintro e W8 ⟨rfl, hf⟩
  have HF8 := Lib.hid (((HF2.out.trans HFB.out).trans HF7.out).trans hf)
  clear hf
  go_wp2
  go_ret
  exact ⟨rfl, HF8.out⟩
end Go.Proofs.YtfhhmajkacjbgaaDoor
namespace Go.Proofs.YtfhhmajkacjbgaaDoor
open Go.ChangeShapes Go.WideShapes Go.ChangeAt Go.RowKit
set_option maxRecDepth 100000 in
set_option maxHeartbeats 1000000 in
theorem eqT_any (l m : List ByteArray) (a b : Option Addr) (ca cb : Nat) (w : World) (ha : RowAt w a (tcells l)) (hb : RowAt w b (tcells m)) (hl : l.length ≤ 4000000) (hm : m.length ≤ 4000000) :
    Calls Tryd.prog 66 #[.slice a l.length ca, .slice b m.length cb] w fun e w' => e = .returned (.bool (decide (l = m))) ∧ Fresh w w' := by
  by_cases hlen : l.length = m.length
  · have HA := Lib.hid ha
    have HB := Lib.hid hb
    have HLEN := Lib.hid hlen
    clear ha hb
    rw [← hlen]
    clear hlen
    go_enter Tryd.func66, Tryd.ntmps66
    go_wp2
    all_goals try (exfalso; omega)
    go_loopw [13] (fun a13 wr => ∃ (k : Nat), a13 = .int .i64 (k : Int) ∧ k ≤ l.length ∧ Hid (Fresh w wr) ∧ Hid (∀ j (h1 : j < l.length) (h2 : j < m.length), j < k → l[j] = m[j])) (fun a13 _ => l.length - (intOf a13).toNat)
    case atStart => exact ⟨0, rfl, Nat.zero_le _, Fresh.refl _, fun _ _ _ h => absurd h (Nat.not_lt_zero _)⟩
    case round =>
      obtain ⟨k, rfl, hk, HF, HE⟩ := hrel
      by_cases hlt : k < l.length
      · have hlt2 : k < m.length := by rw [← HLEN.out]; exact hlt
        obtain ⟨g1, o1, rfl, hc1⟩ := trow_form (HA.out.move HF.out) hlt
        obtain ⟨g2, o2, rfl, hc2⟩ := trow_form (HB.out.move HF.out) hlt2
        have c1 := hc1 k hlt
        have c2 := hc2 k hlt2
        clear hc1 hc2
        have HNO : Hid (l[k] ≠ m[k] → decide (l = m) = false) := fun h => by
          rw [decide_eq_false_iff_not]
          intro e
          subst e
          exact h rfl
        have HYES : Hid (l[k] = m[k] → ∀ j (h1 : j < l.length) (h2 : j < m.length), j < k + 1 → l[j] = m[j]) := fun h j h1 h2 hj => by
          rcases Nat.lt_or_ge j k with h3 | h3
          · exact HE.out j h1 h2 h3
          · obtain rfl : j = k := by omega
            exact h
        generalize l[k] = x at *
        generalize m[k] = y at *
        by_cases hxy : x = y
        · have HY2 := Lib.hid (HYES.out hxy)
          clear HYES HNO
          subst hxy
          go_wp2_with (fail)
          go_quiet (fail)
          go_wp2
          all_goals try (exfalso; omega)
          go_roundw
          case rel => exact ⟨k + 1, by simp, by omega, HF.out.trans (fresh_drewN _ _), HY2.out⟩
          case measure => simp [intOf]; omega
        · have HN2 := Lib.hid (HNO.out hxy)
          clear HYES HNO
          have e0 := tl_ne hxy
          go_wp2_with (fail)
          go_quiet (fail)
          go_wp2
          all_goals try (exfalso; omega)
          go_ret
          exact ⟨ret_bool HN2.out.symm, HF.out.trans (fresh_drewN _ _)⟩
      · obtain rfl : k = l.length := by omega
        have HR : Hid (decide (l = m) = true) := by
          rw [Hid, decide_eq_true_eq]
          exact lists_eq HLEN.out (fun j h1 h2 => HE.out j h1 h2 h1)
        go_wp2
        all_goals try (exfalso; omega)
        go_ret
        exact ⟨ret_bool HR.out.symm, HF.out⟩
  · have HR : Hid (decide (l = m) = false) := by
      rw [Hid, decide_eq_false_iff_not]
      intro e
      exact hlen (by rw [e])
    have e0 : ((l.length : Int) == (m.length : Int)) = false := by rw [beq_eq_false_iff_ne]; omega
    go_enter Tryd.func66, Tryd.ntmps66
    go_wp2
    all_goals try (exfalso; omega)
    go_ret
    exact ⟨ret_bool HR.out.symm, Fresh.refl _⟩
set_option maxRecDepth 100000 in
set_option maxHeartbeats 1000000 in
theorem eqP_any (l m : List (Int × Int)) (a b : Option Addr) (ca cb : Nat) (w : World) (ha : RowAt w a (pcells l)) (hb : RowAt w b (pcells m)) (hl : l.length ≤ 4000000) (hm : m.length ≤ 4000000) :
    Calls Tryd.prog 67 #[.slice a l.length ca, .slice b m.length cb] w fun e w' => e = .returned (.bool (decide (l = m))) ∧ Fresh w w' := by
  by_cases hlen : l.length = m.length
  · have HA := Lib.hid ha
    have HB := Lib.hid hb
    have HLEN := Lib.hid hlen
    clear ha hb
    rw [← hlen]
    clear hlen
    go_enter Tryd.func67, Tryd.ntmps67
    go_wp2
    all_goals try (exfalso; omega)
    go_loopw [13] (fun a13 wr => ∃ (k : Nat), a13 = .int .i64 (k : Int) ∧ k ≤ l.length ∧ Hid (Fresh w wr) ∧ Hid (∀ j (h1 : j < l.length) (h2 : j < m.length), j < k → l[j] = m[j])) (fun a13 _ => l.length - (intOf a13).toNat)
    case atStart => exact ⟨0, rfl, Nat.zero_le _, Fresh.refl _, fun _ _ _ h => absurd h (Nat.not_lt_zero _)⟩
    case round =>
      obtain ⟨k, rfl, hk, HF, HE⟩ := hrel
      by_cases hlt : k < l.length
      · have hlt2 : k < m.length := by rw [← HLEN.out]; exact hlt
        obtain ⟨g1, o1, rfl, hc1⟩ := prow_form (HA.out.move HF.out) hlt
        obtain ⟨g2, o2, rfl, hc2⟩ := prow_form (HB.out.move HF.out) hlt2
        obtain ⟨c1, c2⟩ := hc1 k hlt
        obtain ⟨c3, c4⟩ := hc2 k hlt2
        clear hc1 hc2
        have HNO : Hid (l[k] ≠ m[k] → decide (l = m) = false) := fun h => by
          rw [decide_eq_false_iff_not]
          intro e
          subst e
          exact h rfl
        have HYES : Hid (l[k] = m[k] → ∀ j (h1 : j < l.length) (h2 : j < m.length), j < k + 1 → l[j] = m[j]) := fun h j h1 h2 hj => by
          rcases Nat.lt_or_ge j k with h3 | h3
          · exact HE.out j h1 h2 h3
          · obtain rfl : j = k := by omega
            exact h
        generalize l[k] = x at *
        generalize m[k] = y at *
        obtain ⟨x1, x2⟩ := x
        obtain ⟨y1, y2⟩ := y
        dsimp only at c1 c2 c3 c4
        by_cases h1 : x1 = y1
        · by_cases h2 : x2 = y2
          · have HY2 := Lib.hid (HYES.out (by rw [h1, h2]))
            clear HYES HNO
            subst h1 h2
            go_wp2_with (fail)
            go_quiet (fail)
            go_wp2
            all_goals try (exfalso; omega)
            go_roundw
            case rel => exact ⟨k + 1, by simp, by omega, HF.out.trans (fresh_drewN _ _), HY2.out⟩
            case measure => simp [intOf]; omega
          · have HN2 := Lib.hid (HNO.out (fun e => h2 (by cases e; rfl)))
            clear HYES HNO
            subst h1
            have e0 : (x2 == y2) = false := by rw [beq_eq_false_iff_ne]; exact h2
            go_wp2_with (fail)
            go_quiet (fail)
            go_wp2
            all_goals try (exfalso; omega)
            go_ret
            exact ⟨ret_bool HN2.out.symm, HF.out.trans (fresh_drewN _ _)⟩
        · have HN2 := Lib.hid (HNO.out (fun e => h1 (by cases e; rfl)))
          clear HYES HNO
          have e0 : (x1 == y1) = false := by rw [beq_eq_false_iff_ne]; exact h1
          go_wp2_with (fail)
          go_quiet (fail)
          go_wp2
          all_goals try (exfalso; omega)
          go_ret
          exact ⟨ret_bool HN2.out.symm, HF.out.trans (fresh_drewN _ _)⟩
      · obtain rfl : k = l.length := by omega
        have HR : Hid (decide (l = m) = true) := by
          rw [Hid, decide_eq_true_eq]
          exact lists_eq HLEN.out (fun j h1 h2 => HE.out j h1 h2 h1)
        go_wp2
        all_goals try (exfalso; omega)
        go_ret
        exact ⟨ret_bool HR.out.symm, HF.out⟩
  · have HR : Hid (decide (l = m) = false) := by
      rw [Hid, decide_eq_false_iff_not]
      intro e
      exact hlen (by rw [e])
    have e0 : ((l.length : Int) == (m.length : Int)) = false := by rw [beq_eq_false_iff_ne]; omega
    go_enter Tryd.func67, Tryd.ntmps67
    go_wp2
    all_goals try (exfalso; omega)
    go_ret
    exact ⟨ret_bool HR.out.symm, Fresh.refl _⟩
set_option maxRecDepth 100000 in
set_option maxHeartbeats 1000000 in
theorem eqE_any (l m : List (ByteArray × ByteArray)) (a b : Option Addr) (ca cb : Nat) (w : World) (ha : RowAt w a (ecells l)) (hb : RowAt w b (ecells m)) (hl : l.length ≤ 4000000) (hm : m.length ≤ 4000000) :
    Calls Tryd.prog 68 #[.slice a l.length ca, .slice b m.length cb] w fun e w' => e = .returned (.bool (decide (l = m))) ∧ Fresh w w' := by
  by_cases hlen : l.length = m.length
  · have HA := Lib.hid ha
    have HB := Lib.hid hb
    have HLEN := Lib.hid hlen
    clear ha hb
    rw [← hlen]
    clear hlen
    go_enter Tryd.func68, Tryd.ntmps68
    go_wp2
    all_goals try (exfalso; omega)
    go_loopw [13] (fun a13 wr => ∃ (k : Nat), a13 = .int .i64 (k : Int) ∧ k ≤ l.length ∧ Hid (Fresh w wr) ∧ Hid (∀ j (h1 : j < l.length) (h2 : j < m.length), j < k → l[j] = m[j])) (fun a13 _ => l.length - (intOf a13).toNat)
    case atStart => exact ⟨0, rfl, Nat.zero_le _, Fresh.refl _, fun _ _ _ h => absurd h (Nat.not_lt_zero _)⟩
    case round =>
      obtain ⟨k, rfl, hk, HF, HE⟩ := hrel
      by_cases hlt : k < l.length
      · have hlt2 : k < m.length := by rw [← HLEN.out]; exact hlt
        obtain ⟨g1, o1, rfl, hc1⟩ := erow_form (HA.out.move HF.out) hlt
        obtain ⟨g2, o2, rfl, hc2⟩ := erow_form (HB.out.move HF.out) hlt2
        obtain ⟨c1, c2⟩ := hc1 k hlt
        obtain ⟨c3, c4⟩ := hc2 k hlt2
        clear hc1 hc2
        have HNO : Hid (l[k] ≠ m[k] → decide (l = m) = false) := fun h => by
          rw [decide_eq_false_iff_not]
          intro e
          subst e
          exact h rfl
        have HYES : Hid (l[k] = m[k] → ∀ j (h1 : j < l.length) (h2 : j < m.length), j < k + 1 → l[j] = m[j]) := fun h j h1 h2 hj => by
          rcases Nat.lt_or_ge j k with h3 | h3
          · exact HE.out j h1 h2 h3
          · obtain rfl : j = k := by omega
            exact h
        generalize l[k] = x at *
        generalize m[k] = y at *
        obtain ⟨x1, x2⟩ := x
        obtain ⟨y1, y2⟩ := y
        dsimp only at c1 c2 c3 c4
        by_cases h1 : x1 = y1
        · by_cases h2 : x2 = y2
          · have HY2 := Lib.hid (HYES.out (by rw [h1, h2]))
            clear HYES HNO
            subst h1 h2
            go_wp2_with (fail)
            go_quiet (fail)
            go_wp2
            all_goals try (exfalso; omega)
            go_roundw
            case rel => exact ⟨k + 1, by simp, by omega, HF.out.trans (fresh_drewN _ _), HY2.out⟩
            case measure => simp [intOf]; omega
          · have HN2 := Lib.hid (HNO.out (fun e => h2 (by cases e; rfl)))
            clear HYES HNO
            subst h1
            have e0 := tl_ne h2
            go_wp2_with (fail)
            go_quiet (fail)
            go_wp2
            all_goals try (exfalso; omega)
            go_ret
            exact ⟨ret_bool HN2.out.symm, HF.out.trans (fresh_drewN _ _)⟩
        · have HN2 := Lib.hid (HNO.out (fun e => h1 (by cases e; rfl)))
          clear HYES HNO
          have e0 := tl_ne h1
          go_wp2_with (fail)
          go_quiet (fail)
          go_wp2
          all_goals try (exfalso; omega)
          go_ret
          exact ⟨ret_bool HN2.out.symm, HF.out.trans (fresh_drewN _ _)⟩
      · obtain rfl : k = l.length := by omega
        have HR : Hid (decide (l = m) = true) := by
          rw [Hid, decide_eq_true_eq]
          exact lists_eq HLEN.out (fun j h1 h2 => HE.out j h1 h2 h1)
        go_wp2
        all_goals try (exfalso; omega)
        go_ret
        exact ⟨ret_bool HR.out.symm, HF.out⟩
  · have HR : Hid (decide (l = m) = false) := by
      rw [Hid, decide_eq_false_iff_not]
      intro e
      exact hlen (by rw [e])
    have e0 : ((l.length : Int) == (m.length : Int)) = false := by rw [beq_eq_false_iff_ne]; omega
    go_enter Tryd.func68, Tryd.ntmps68
    go_wp2
    all_goals try (exfalso; omega)
    go_ret
    exact ⟨ret_bool HR.out.symm, Fresh.refl _⟩
end Go.Proofs.YtfhhmajkacjbgaaDoor
namespace Go.Proofs.YtfhhmajkacjbgaaDoor
open Go.ChangeShapes Go.WideShapes Go.ChangeAt Go.RowKit

/-- Two boxes just made. -/
theorem two_boxes (w : World) (o p : Obj) : ((w.alloc o).alloc p).heap[w.heap.size]? = some o ∧ ((w.alloc o).alloc p).heap[w.heap.size + 1]? = some p ∧ Fresh w ((w.alloc o).alloc p) ∧ ((w.alloc o).alloc p).heap.size = w.heap.size + 2 :=
  ⟨at_alloc (at_new w o), by have := at_new (w.alloc o) p; rw [World.size_alloc] at this; exact this, ((Fresh.refl w).alloc _).alloc _, by simp⟩
set_option maxRecDepth 100000 in
set_option maxHeartbeats 4000000 in
theorem csame_any (m n : CM) (w : World) (hm : m.In w) (hn : n.In w) (lm : m.c.Low) (ln : n.c.Low) :
    Calls Tryd.prog 41 #[m.val, n.val] w fun e w' => e = .returned (.bool (sameC m.c n.c)) ∧ Fresh w w' := by
  obtain ⟨⟨s0, s1, lc, lp, n4, n5, le⟩, ca, cc, pa, pc, ea, ec⟩ := m
  obtain ⟨⟨s0', s1', lc', lp', n4', n5', le'⟩, ca', cc', pa', pc', ea', ec'⟩ := n
  have HSC : Hid (sameC ⟨s0, s1, lc, lp, n4, n5, le⟩ ⟨s0', s1', lc', lp', n4', n5', le'⟩ = (decide (s0 = s0') && (decide (s1 = s1') && (decide (lc = lc') && (decide (lp = lp') && (decide (n4 = n4') && (decide (n5 = n5') && decide (le = le')))))))) := rfl
  have HC := Lib.hid hm.cmd
  have HC' := Lib.hid hn.cmd
  have HP := Lib.hid hm.ports
  have HP' := Lib.hid hn.ports
  have HE := Lib.hid hm.env
  have HE' := Lib.hid hn.env
  have HL : Hid (lc.length ≤ 1048576 ∧ lp.length ≤ 1048576 ∧ le.length ≤ 1048576) := ⟨lm.lc, lm.lp, lm.le⟩
  have HL' : Hid (lc'.length ≤ 1048576 ∧ lp'.length ≤ 1048576 ∧ le'.length ≤ 1048576) := ⟨ln.lc, ln.lp, ln.le⟩
  dsimp only [CM.val] at *
  clear hm hn lm ln
  generalize sameC ⟨s0, s1, lc, lp, n4, n5, le⟩ ⟨s0', s1', lc', lp', n4', n5', le'⟩ = R at *
  have HX := Lib.hid (two_boxes w (.cells #[.string s0, .string s1, .slice ca lc.length cc, .slice pa lp.length pc, .int .i64 n4, .int .i64 n5, .slice ea le.length ec] 53) (.cells #[.string s0', .string s1', .slice ca' lc'.length cc', .slice pa' lp'.length pc', .int .i64 n4', .int .i64 n5', .slice ea' le'.length ec'] 53))
  by_cases h0 : s0 = s0'
  case neg =>
    have HR : Hid (R = false) := by rw [Hid, HSC.out, decide_eq_false h0]; simp
    have e0 := tl_ne h0
    have HF := Lib.hid HX.out.2.2.1
    clear HX HSC
    go_enter Tryd.func41, Tryd.ntmps41
    go_wp2
    go_ret
    exact ⟨ret_bool HR.out.symm, HF.out⟩
  subst h0
  by_cases h1 : s1 = s1'
  case neg =>
    have HR : Hid (R = false) := by rw [Hid, HSC.out, decide_eq_false h1]; simp
    have e0 := tl_ne h1
    have HF := Lib.hid HX.out.2.2.1
    clear HX HSC
    go_enter Tryd.func41, Tryd.ntmps41
    go_wp2
    go_ret
    exact ⟨ret_bool HR.out.symm, HF.out⟩
  subst h1
  by_cases h4 : n4 = n4'
  case neg =>
    have HR : Hid (R = false) := by rw [Hid, HSC.out, decide_eq_false h4]; simp
    have e0 : (n4 == n4') = false := by rw [beq_eq_false_iff_ne]; exact h4
    have HF := Lib.hid HX.out.2.2.1
    clear HX HSC
    go_enter Tryd.func41, Tryd.ntmps41
    go_wp2
    go_ret
    exact ⟨ret_bool HR.out.symm, HF.out⟩
  subst h4
  by_cases h5 : n5 = n5'
  case neg =>
    have HR : Hid (R = false) := by rw [Hid, HSC.out, decide_eq_false h5]; simp
    have e0 : (n5 == n5') = false := by rw [beq_eq_false_iff_ne]; exact h5
    have HF := Lib.hid HX.out.2.2.1
    clear HX HSC
    go_enter Tryd.func41, Tryd.ntmps41
    go_wp2
    go_ret
    exact ⟨ret_bool HR.out.symm, HF.out⟩
  subst h5
  have HSC2 : Hid (R = (decide (lc = lc') && (decide (lp = lp') && decide (le = le')))) := by rw [Hid, HSC.out]; simp
  clear HSC
  have HT : Hid (∀ W, Fresh w W → Calls Tryd.prog 66 #[.slice ca lc.length cc, .slice ca' lc'.length cc'] W fun e w' => e = .returned (.bool (decide (lc = lc'))) ∧ Fresh W w') := fun W f => eqT_any lc lc' ca ca' cc cc' W (HC.out.move f) (HC'.out.move f) (by have := HL.out; omega) (by have := HL'.out; omega)
  have HQ : Hid (∀ W, Fresh w W → Calls Tryd.prog 67 #[.slice pa lp.length pc, .slice pa' lp'.length pc'] W fun e w' => e = .returned (.bool (decide (lp = lp'))) ∧ Fresh W w') := fun W f => eqP_any lp lp' pa pa' pc pc' W (HP.out.move f) (HP'.out.move f) (by have := HL.out; omega) (by have := HL'.out; omega)
  have HU : Hid (∀ W, Fresh w W → Calls Tryd.prog 68 #[.slice ea le.length ec, .slice ea' le'.length ec'] W fun e w' => e = .returned (.bool (decide (le = le'))) ∧ Fresh W w') := fun W f => eqE_any le le' ea ea' ec ec' W (HE.out.move f) (HE'.out.move f) (by have := HL.out; omega) (by have := HL'.out; omega)
  clear HC HC' HP HP' HE HE' HL HL'
  generalize decide (lc = lc') = d1 at *
  generalize decide (lp = lp') = d2 at *
  generalize decide (le = le') = d3 at *
  generalize lc.length = z1 at *
  generalize lp.length = z2 at *
  generalize le.length = z3 at *
  generalize lc'.length = z1' at *
  generalize lp'.length = z2' at *
  generalize le'.length = z3' at *
  go_enter Tryd.func41, Tryd.ntmps41
  go_wp2_with (fail)
  generalize (w.alloc (.cells #[.string s0, .string s1, .slice ca z1 cc, .slice pa z2 pc, .int .i64 n4, .int .i64 n5, .slice ea z3 ec] 53)).alloc (.cells #[.string s0, .string s1, .slice ca' z1' cc', .slice pa' z2' pc', .int .i64 n4, .int .i64 n5, .slice ea' z3' ec'] 53) = W0 at *
  obtain ⟨x1, x2, hx3, x4⟩ := HX.out
  have HX3 := Lib.hid hx3
  clear hx3 HX x4
  generalize w.heap.size = b at *
  have X1 := Lib.hid x1
  have X2 := Lib.hid x2
  clear x1 x2
  refine (HT.out _ HX3.out).mono ?_
  rintro e W1 ⟨rfl, hf⟩
  have HF1 := Lib.hid hf
  clear hf
  cases d1 with
  | false =>
    go_wp2
    go_ret
    exact ⟨ret_bool (by rw [HSC2.out]; rfl), HX3.out.trans HF1.out⟩
  | true =>
    obtain ⟨⟨c0, c1, c2, c3, c4, c5, c6⟩, _⟩ := Box7.cells (show Box7 53 W1 b s0 s1 (.slice ca z1 cc) (.slice pa z2 pc) n4 n5 (.slice ea z3 ec) from HF1.out.at X1.out)
    obtain ⟨⟨y0, y1, y2, y3, y4, y5, y6⟩, _⟩ := Box7.cells (show Box7 53 W1 (b + 1) s0 s1 (.slice ca' z1' cc') (.slice pa' z2' pc') n4 n5 (.slice ea' z3' ec') from HF1.out.at X2.out)
    clear c0 c1 c2 c4 c5 y0 y1 y2 y4 y5
    go_wp2_with (fail)
    refine (HQ.out _ (HX3.out.trans HF1.out)).mono ?_
    rintro e W2 ⟨rfl, hf⟩
    have HF2 := Lib.hid (HF1.out.trans hf)
    clear hf
    cases d2 with
    | false =>
      go_wp2
      go_ret
      exact ⟨ret_bool (by rw [HSC2.out]; rfl), HX3.out.trans HF2.out⟩
    | true =>
      clear c3 c6 y3 y6
      obtain ⟨⟨c0, c1, c2, c3, c4, c5, c6⟩, _⟩ := Box7.cells (show Box7 53 W2 b s0 s1 (.slice ca z1 cc) (.slice pa z2 pc) n4 n5 (.slice ea z3 ec) from HF2.out.at X1.out)
      obtain ⟨⟨y0, y1, y2, y3, y4, y5, y6⟩, _⟩ := Box7.cells (show Box7 53 W2 (b + 1) s0 s1 (.slice ca' z1' cc') (.slice pa' z2' pc') n4 n5 (.slice ea' z3' ec') from HF2.out.at X2.out)
      clear c0 c1 c2 c3 c4 c5 y0 y1 y2 y3 y4 y5
      go_wp2_with (fail)
      refine (HU.out _ (HX3.out.trans HF2.out)).mono ?_
      rintro e W3 ⟨rfl, hf⟩
      go_wp2
      go_ret
      exact ⟨ret_bool (by rw [HSC2.out]; rfl), (HX3.out.trans HF2.out).trans hf⟩
end Go.Proofs.YtfhhmajkacjbgaaDoor
namespace Go.Proofs.YtfhhmajkacjbgaaDoor
open Go.ChangeShapes Go.WideShapes Go.ChangeAt Go.RowKit

theorem sameL_len : ∀ (a b : List Ct), a.length ≠ b.length → sameL a b = false
  | [], [], h => absurd rfl h
  | [], _ :: _, _ => rfl
  | _ :: _, [], _ => rfl
  | x :: a, y :: b, h => by
    rw [sameL, sameL_len a b (fun e => h (by simp [e])), Bool.and_false]
theorem sameL_drop {a b : List CM} {k : Nat} (h : k < a.length) (h' : k < b.length) : sameL ((a.drop k).map (·.c)) ((b.drop k).map (·.c)) = (sameC a[k].c b[k].c && sameL ((a.drop (k + 1)).map (·.c)) ((b.drop (k + 1)).map (·.c))) := by
  rw [List.drop_eq_getElem_cons h, List.drop_eq_getElem_cons h', List.map_cons, List.map_cons, sameL]
set_option maxRecDepth 100000 in
set_option maxHeartbeats 4000000 in
theorem eqFunc_any (cs cs' : List CM) (a a' : Option Addr) (cap cap' : Nat) (w : World) (ha : RowAt w a (ccells cs)) (ha' : RowAt w a' (ccells cs')) (hi : ∀ m ∈ cs, m.In w) (hi' : ∀ m ∈ cs', m.In w) (hl : cs.length ≤ 1048576) (hl' : cs'.length ≤ 1048576) (lw : ∀ m ∈ cs, m.c.Low) (lw' : ∀ m ∈ cs', m.c.Low) :
    Calls Tryd.prog 40 #[.slice a cs.length cap, .slice a' cs'.length cap', .func (.func 41) #[] #[]] w fun e w' => e = .returned (.bool (sameL (cs.map (·.c)) (cs'.map (·.c)))) ∧ Fresh w w' := by
  have HROW := Lib.hid ha
  have HROW' := Lib.hid ha'
  have HINS := Lib.hid hi
  have HINS' := Lib.hid hi'
  have HLW := Lib.hid lw
  have HLW' := Lib.hid lw'
  clear ha ha' hi hi' lw lw'
  obtain ⟨R, hR⟩ : ∃ R, R = sameL (cs.map (·.c)) (cs'.map (·.c)) := ⟨_, rfl⟩
  rw [← hR]
  have HR0 := Lib.hid hR
  clear hR
  by_cases hlen : cs.length = cs'.length
  case neg =>
    have HR : Hid (R = false) := by rw [Hid, HR0.out, sameL_len _ _ (by simpa using hlen)]
    have e0 : ((cs.length : Int) == (cs'.length : Int)) = false := by rw [beq_eq_false_iff_ne]; omega
    go_enter Tryd.func40, Tryd.ntmps40
    go_wp2
    all_goals try (exfalso; omega)
    go_ret
    exact ⟨ret_bool HR.out.symm, Fresh.refl _⟩
  have HN2 : Hid (cs'.length = cs.length) := hlen.symm
  have hd2 := HN2.out
  rw [hd2]
  clear hd2 hlen hl'
  generalize hn : cs.length = n at *
  have HNN := Lib.hid hn
  clear hn
  go_enter Tryd.func40, Tryd.ntmps40
  go_wp2
  all_goals try (exfalso; omega)
  go_loopw [17] (fun a17 wr => ∃ (k : Nat), a17 = .int .i64 (k : Int) ∧ k ≤ n ∧ Hid (R = sameL ((cs.drop k).map (·.c)) ((cs'.drop k).map (·.c))) ∧ Hid (Fresh w wr)) (fun a17 _ => n - (intOf a17).toNat)
  case atStart => exact ⟨0, rfl, Nat.zero_le _, HR0.out, Fresh.refl _⟩
  case round =>
    obtain ⟨k, rfl, hk, HE, HF⟩ := hrel
    by_cases hltn : k < n
    · have hlt : k < cs.length := by rw [HNN.out]; exact hltn
      have hlt' : k < cs'.length := by rw [HN2.out]; exact hltn
      obtain ⟨g, o1, rfl, hc⟩ := crow_form (HROW.out.move HF.out) hlt
      obtain ⟨g', o1', rfl, hc'⟩ := crow_form (HROW'.out.move HF.out) hlt'
      obtain ⟨c0, c1, c2, c3, c4, c5, c6⟩ := hc k hlt
      obtain ⟨y0, y1, y2, y3, y4, y5, y6⟩ := hc' k hlt'
      have HST : Hid (R = (sameC cs[k].c cs'[k].c && sameL ((cs.drop (k + 1)).map (·.c)) ((cs'.drop (k + 1)).map (·.c)))) := HE.out.trans (sameL_drop hlt hlt')
      have HCALL : Hid (∀ W, Fresh wr W → Calls Tryd.prog 41 #[cs[k].val, cs'[k].val] W fun e w' => e = .returned (.bool (sameC cs[k].c cs'[k].c)) ∧ Fresh W w') := fun W f =>
        csame_any cs[k] cs'[k] W (((HINS.out _ (List.getElem_mem hlt)).move HF.out).move f) (((HINS'.out _ (List.getElem_mem hlt')).move HF.out).move f) (HLW.out _ (List.getElem_mem hlt)) (HLW'.out _ (List.getElem_mem hlt'))
      have lt1 : g' < wr.heap.size := World.block_lt_of_cell? wr _ y0
      clear hc hc'
      generalize sameC cs[k].c cs'[k].c = SC at *
      generalize cs[k] = m at *
      generalize cs'[k] = m' at *
      clear hlt hlt'
      obtain ⟨⟨s0, s1, lc, lp, n4, n5, le⟩, ca, cc, pa, pc, ea, ec⟩ := m
      obtain ⟨⟨s0', s1', lc', lp', n4', n5', le'⟩, ca', cc', pa', pc', ea', ec'⟩ := m'
      dsimp only [CM.val] at *
      generalize lc.length = z1 at *
      generalize lp.length = z2 at *
      generalize le.length = z3 at *
      generalize lc'.length = z1' at *
      generalize lp'.length = z2' at *
      generalize le'.length = z3' at *
      have i1 : (0 : Int) ≤ (k : Int) := by omega
      have i2 : (k : Int) < (n : Int) := by omega
      have HFA := Lib.hid (((Fresh.refl wr).alloc (.cells #[.string s0, .string s1, .slice ca z1 cc, .slice pa z2 pc, .int .i64 n4, .int .i64 n5, .slice ea z3 ec] 53)).alloc (.cells #[.string s0', .string s1', .slice ca' z1' cc', .slice pa' z2' pc', .int .i64 n4', .int .i64 n5', .slice ea' z3' ec'] 53))
      have HC2 := Lib.hid (HCALL.out _ HFA.out)
      clear HCALL
      cases SC with
      | false =>
        have HR : Hid (R = false) := by rw [Hid, HST.out]; rfl
        clear HST
        go_wp2_with (fail)
        all_goals try (exfalso; omega)
        refine HC2.out.mono ?_
        rintro e W1 ⟨rfl, hf⟩
        have HF2 := Lib.hid ((HF.out.trans HFA.out).trans hf)
        clear hf
        go_wp2
        all_goals try (exfalso; omega)
        go_ret
        exact ⟨ret_bool HR.out.symm, HF2.out⟩
      | true =>
        have HN : Hid (R = sameL ((cs.drop (k + 1)).map (·.c)) ((cs'.drop (k + 1)).map (·.c))) := by rw [Hid, HST.out]; rfl
        clear HST
        go_wp2_with (fail)
        all_goals try (exfalso; omega)
        refine HC2.out.mono ?_
        rintro e W1 ⟨rfl, hf⟩
        have HF2 := Lib.hid ((HF.out.trans HFA.out).trans hf)
        clear hf
        go_wp2
        all_goals try (exfalso; omega)
        go_roundw
        case rel => exact ⟨k + 1, by simp, by omega, HN.out, HF2.out⟩
        case measure => simp [intOf]; omega
    · obtain rfl : k = n := by omega
      have HR : Hid (R = true) := by rw [Hid, HE.out, List.drop_of_length_le (by rw [HNN.out]; exact Nat.le_refl _), List.drop_of_length_le (by rw [HN2.out]; exact Nat.le_refl _)]; rfl
      go_wp2
      all_goals try (exfalso; omega)
      go_ret
      exact ⟨ret_bool HR.out.symm, HF.out⟩
set_option maxRecDepth 100000 in
set_option maxHeartbeats 4000000 in
theorem same_any (p q : PM) (w : World) (h : p.At w) (h2 : q.At w) (hl : p.Low) (hl2 : q.Low) :
    Calls Tryd.prog 14 #[p.val, q.val] w fun e w' => e = .returned (.bool (sameP p.pd q.pd)) ∧ Fresh w w' := by
  obtain ⟨name, ns, rs, gr, ho, a, cap, cs⟩ := p
  obtain ⟨name', ns', rs', gr', ho', a', cap', cs'⟩ := q
  have HP : Hid (sameP (PM.mk name ns rs gr ho a cap cs).pd (PM.mk name' ns' rs' gr' ho' a' cap' cs').pd = (decide (name = name') && (decide (ns = ns') && (decide (rs = rs') && (decide (gr = gr') && (decide (ho = ho') && sameL (cs.map (·.c)) (cs'.map (·.c)))))))) := rfl
  have HX := Lib.hid (two_boxes w (.cells #[.string name, .string ns, .int .i64 rs, .int .i64 gr, .bool ho, .slice a cs.length cap] 25) (.cells #[.string name', .string ns', .int .i64 rs', .int .i64 gr', .bool ho', .slice a' cs'.length cap'] 25))
  have HEF := Lib.hid (eqFunc_any cs cs' a a' cap cap' _ (h.row.move HX.out.2.2.1) (h2.row.move HX.out.2.2.1) (fun m hm => (h.ins m hm).move HX.out.2.2.1) (fun m hm => (h2.ins m hm).move HX.out.2.2.1) hl.len hl2.len hl.cs hl2.cs)
  have HF := Lib.hid HX.out.2.2.1
  clear HX
  dsimp only [PM.val] at *
  clear h h2 hl hl2
  generalize sameP (PM.mk name ns rs gr ho a cap cs).pd (PM.mk name' ns' rs' gr' ho' a' cap' cs').pd = R at *
  generalize sameL (cs.map (·.c)) (cs'.map (·.c)) = SL at *
  generalize cs.length = n at *
  generalize cs'.length = n' at *
  by_cases hname : name = name'
  case neg =>
    have HR : Hid (R = false) := by rw [Hid, HP.out, decide_eq_false hname]; simp
    have e0 := tl_ne hname
    clear HEF HP
    go_enter Tryd.func14, Tryd.ntmps14
    go_wp2
    go_ret
    exact ⟨ret_bool HR.out.symm, HF.out⟩
  subst hname
  by_cases hns : ns = ns'
  case neg =>
    have HR : Hid (R = false) := by rw [Hid, HP.out, decide_eq_false hns]; simp
    have e0 := tl_ne hns
    clear HEF HP
    go_enter Tryd.func14, Tryd.ntmps14
    go_wp2
    go_ret
    exact ⟨ret_bool HR.out.symm, HF.out⟩
  subst hns
  by_cases hrs : rs = rs'
  case neg =>
    have HR : Hid (R = false) := by rw [Hid, HP.out, decide_eq_false hrs]; simp
    have e0 : (rs == rs') = false := by rw [beq_eq_false_iff_ne]; exact hrs
    clear HEF HP
    go_enter Tryd.func14, Tryd.ntmps14
    go_wp2
    go_ret
    exact ⟨ret_bool HR.out.symm, HF.out⟩
  subst hrs
  by_cases hgr : gr = gr'
  case neg =>
    have HR : Hid (R = false) := by rw [Hid, HP.out, decide_eq_false hgr]; simp
    have e0 : (gr == gr') = false := by rw [beq_eq_false_iff_ne]; exact hgr
    clear HEF HP
    go_enter Tryd.func14, Tryd.ntmps14
    go_wp2
    go_ret
    exact ⟨ret_bool HR.out.symm, HF.out⟩
  subst hgr
  by_cases hho : ho = ho'
  case neg =>
    have HR : Hid (R = false) := by rw [Hid, HP.out, decide_eq_false hho]; simp
    have e0 : (ho == ho') = false := by rw [beq_eq_false_iff_ne]; exact hho
    clear HEF HP
    go_enter Tryd.func14, Tryd.ntmps14
    go_wp2
    go_ret
    exact ⟨ret_bool HR.out.symm, HF.out⟩
  subst hho
  have HR : Hid (R = SL) := by rw [Hid, HP.out]; simp
  clear HP
  go_enter Tryd.func14, Tryd.ntmps14
  go_wp2_with (fail)
  refine HEF.out.mono ?_
  rintro e W1 ⟨rfl, hf⟩
  have hf := Lib.hid (HF.out.trans hf)
  go_wp2
  go_ret
  exact ⟨ret_bool HR.out.symm, hf.out⟩
end Go.Proofs.YtfhhmajkacjbgaaDoor
