/-
  Quote, by package utf and by the document: what a whole text is, quoted.
  What Quote writes is what Unquote reads, piece by piece; the document's example.
  The laws' Awake.
  States of version 3, by what they hold alone: the contracts, without where the rows lie.
-/
import Derived.Test.YtldncgelghcjeaaGreatDoorCat08
import Derived.Test.YtldncgelghcjeaaGreatDoorCat25
import Derived.Test.YtldncgelghcjeaaGreatDoorCat12
import Derived.Test.YtldncgelghcjeaaGreatDoorCat19
import Derived.Test.YtldncgelghcjeaaGreatDoorCat17
import Derived.Test.YtldncgelghcjeaaGreatDoorCat21
import Derived.Test.YtldncgelghcjeaaGreatDoorCat23
set_option linter.unusedSimpArgs false
set_option linter.unusedVariables false
namespace Go.Proofs.YtldncgelghcjeaaGreatDoor
open Go.ChangeShapes Go.WideShapes Go.ChangeAt Go.RowKit
attribute [local go_sem ↓] Go.wp_at_zero Go.wp_at_succ
variable {w : World}

set_option maxRecDepth 100000 in
set_option maxHeartbeats 4000000 in
theorem appq_34 (B : Nat) (v : Value) (l : List UInt8) (w : World) (h : Rd w B v l) : Calls Tryz.prog 148 #[v, .int .u8 34] w (Put w B l [92, 34]) := by
  obtain ⟨i0, hi, hz0, hz1, hz2⟩ := info_parts info5
  have H := Lib.hid h
  have hx := Lib.hid (show Lib.indexByte (⟨#[8, 12, 10, 13, 9]⟩ : ByteArray).data.toList (34 : Int).toNat.toUInt8 = -1 by decide)
  clear h
  go_enter Tryz.func148, Tryz.ntmps148
  go_wp2_with (first
    | (go_at_call 169; refine (idx_any _ _ _ _ hx.out).mono ?_; rintro e w' ⟨rfl, rfl⟩)
    | (at_builtin; refine wpList_append_lies _ rfl _ _ 98 rfl B 5 i0 (.int .u8 0) 1 1 Tryz.underlying98 hi hz0 hz1 hz2 rfl (by decide) v l.length (vals l) rfl (H.out.buf.alloc _) ⟨w.heap.size, 0, none⟩ 2 2 (vals [92, 34]) rfl rfl (news_at w _ _ rfl) (vals_one _) (by decide) (H.out.m1 (by decide)) (H.out.m2 (by decide)) H.out.m3 (w.heap.size + 1) (by simp) ?_; intro g cap w1 hown hgrow hat hlt; have HP := Lib.hid (put_of H.out.buf H.out.low rfl hown hgrow); clear hown hgrow hat hlt))
  go_ret
  exact HP.out
set_option maxRecDepth 100000 in
set_option maxHeartbeats 4000000 in
theorem appq_92 (B : Nat) (v : Value) (l : List UInt8) (w : World) (h : Rd w B v l) : Calls Tryz.prog 148 #[v, .int .u8 92] w (Put w B l [92, 92]) := by
  obtain ⟨i0, hi, hz0, hz1, hz2⟩ := info_parts info5
  have H := Lib.hid h
  have hx := Lib.hid (show Lib.indexByte (⟨#[8, 12, 10, 13, 9]⟩ : ByteArray).data.toList (92 : Int).toNat.toUInt8 = -1 by decide)
  clear h
  go_enter Tryz.func148, Tryz.ntmps148
  go_wp2_with (first
    | (go_at_call 169; refine (idx_any _ _ _ _ hx.out).mono ?_; rintro e w' ⟨rfl, rfl⟩)
    | (at_builtin; refine wpList_append_lies _ rfl _ _ 98 rfl B 5 i0 (.int .u8 0) 1 1 Tryz.underlying98 hi hz0 hz1 hz2 rfl (by decide) v l.length (vals l) rfl (H.out.buf.alloc _) ⟨w.heap.size, 0, none⟩ 2 2 (vals [92, 92]) rfl rfl (news_at w _ _ rfl) (vals_one _) (by decide) (H.out.m1 (by decide)) (H.out.m2 (by decide)) H.out.m3 (w.heap.size + 1) (by simp) ?_; intro g cap w1 hown hgrow hat hlt; have HP := Lib.hid (put_of H.out.buf H.out.low rfl hown hgrow); clear hown hgrow hat hlt))
  go_ret
  exact HP.out
theorem idx_none (c : UInt8) (h : 32 ≤ c.toNat) : Lib.indexByte (⟨#[8, 12, 10, 13, 9]⟩ : ByteArray).data.toList (c.toNat : Int).toNat.toUInt8 = -1 := by
  have e : (c.toNat : Int).toNat.toUInt8 = c := by simp
  rw [e]
  have n : ∀ d : UInt8, d.toNat < 32 → (d == c) = false := fun d hd => by
    rw [beq_eq_false_iff_ne]; intro e; subst e; omega
  show Lib.indexByte [8, 12, 10, 13, 9] c = -1
  simp [Lib.indexByte, n 8 (by decide), n 12 (by decide), n 10 (by decide), n 13 (by decide), n 9 (by decide)]
set_option maxRecDepth 100000 in
set_option maxHeartbeats 4000000 in
theorem appq_plain (c : UInt8) (h0 : 32 ≤ c.toNat) (h1 : c.toNat ≠ 34) (h2 : c.toNat ≠ 92) (B : Nat) (v : Value) (l : List UInt8) (w : World) (h : Rd w B v l) : Calls Tryz.prog 148 #[v, .int .u8 (c.toNat : Int)] w (Put w B l [c]) := by
  obtain ⟨i0, hi, hz0, hz1, hz2⟩ := info_parts info5
  have H := Lib.hid h
  have hx := Lib.hid (idx_none c h0)
  have e1 : ((c.toNat : Int) == 34) = false := by rw [beq_eq_false_iff_ne]; omega
  have e2 : ((c.toNat : Int) == 92) = false := by rw [beq_eq_false_iff_ne]; omega
  have e3 : ¬ (c.toNat : Int) < 32 := by omega
  clear h h0 h1 h2
  go_enter Tryz.func148, Tryz.ntmps148
  go_wp2_with (first
    | (go_at_call 169; refine (idx_any _ _ _ _ hx.out).mono ?_; rintro e w' ⟨rfl, rfl⟩)
    | (at_builtin; refine wpList_append_lies _ rfl _ _ 98 rfl B 5 i0 (.int .u8 0) 1 1 Tryz.underlying98 hi hz0 hz1 hz2 rfl (by decide) v l.length (vals l) rfl (H.out.buf.alloc _) ⟨w.heap.size, 0, none⟩ 1 1 (vals [c]) rfl rfl (news_at w _ _ rfl) (vals_one _) (by decide) (H.out.m1 (by decide)) (H.out.m2 (by decide)) H.out.m3 (w.heap.size + 1) (by simp) ?_; intro g cap w1 hown hgrow hat hlt; have HP := Lib.hid (put_of H.out.buf H.out.low rfl hown hgrow); clear hown hgrow hat hlt))
  go_ret
  exact HP.out
theorem appq_any (c : UInt8) (B : Nat) (v : Value) (l : List UInt8) (w : World) (h : Rd w B v l) : Calls Tryz.prog 148 #[v, .int .u8 (c.toNat : Int)] w (Put w B l (qB c)) := by
  by_cases h0 : 32 ≤ c.toNat
  · by_cases h1 : c.toNat = 34
    · obtain rfl := c_of h1
      exact appq_34 B v l w h
    by_cases h2 : c.toNat = 92
    · obtain rfl := c_of h2
      exact appq_92 B v l w h
    have e : qB c = [c] := by
      have n : ∀ d : UInt8, d.toNat < 32 → ¬ c = d := fun d hd e => by subst e; omega
      rw [qB, if_neg (by rintro (rfl | rfl); exact h1 rfl; exact h2 rfl), if_neg (n 10 (by decide)), if_neg (n 13 (by decide)), if_neg (n 9 (by decide)), if_neg (n 8 (by decide)), if_neg (n 12 (by decide)), if_neg (by omega)]
    rw [e]
    exact appq_plain c h0 h1 h2 B v l w h
  · have hn : c.toNat = 0 ∨ c.toNat = 1 ∨ c.toNat = 2 ∨ c.toNat = 3 ∨ c.toNat = 4 ∨ c.toNat = 5 ∨ c.toNat = 6 ∨ c.toNat = 7 ∨ c.toNat = 8 ∨ c.toNat = 9 ∨ c.toNat = 10 ∨ c.toNat = 11 ∨ c.toNat = 12 ∨ c.toNat = 13 ∨ c.toNat = 14 ∨ c.toNat = 15 ∨ c.toNat = 16 ∨ c.toNat = 17 ∨ c.toNat = 18 ∨ c.toNat = 19 ∨ c.toNat = 20 ∨ c.toNat = 21 ∨ c.toNat = 22 ∨ c.toNat = 23 ∨ c.toNat = 24 ∨ c.toNat = 25 ∨ c.toNat = 26 ∨ c.toNat = 27 ∨ c.toNat = 28 ∨ c.toNat = 29 ∨ c.toNat = 30 ∨ c.toNat = 31 := by omega
    rcases hn with h1 | h1 | h1 | h1 | h1 | h1 | h1 | h1 | h1 | h1 | h1 | h1 | h1 | h1 | h1 | h1 | h1 | h1 | h1 | h1 | h1 | h1 | h1 | h1 | h1 | h1 | h1 | h1 | h1 | h1 | h1 | h1
    all_goals obtain rfl := c_of h1
    · exact appq_0 B v l w h
    · exact appq_1 B v l w h
    · exact appq_2 B v l w h
    · exact appq_3 B v l w h
    · exact appq_4 B v l w h
    · exact appq_5 B v l w h
    · exact appq_6 B v l w h
    · exact appq_7 B v l w h
    · exact appq_8 B v l w h
    · exact appq_9 B v l w h
    · exact appq_10 B v l w h
    · exact appq_11 B v l w h
    · exact appq_12 B v l w h
    · exact appq_13 B v l w h
    · exact appq_14 B v l w h
    · exact appq_15 B v l w h
    · exact appq_16 B v l w h
    · exact appq_17 B v l w h
    · exact appq_18 B v l w h
    · exact appq_19 B v l w h
    · exact appq_20 B v l w h
    · exact appq_21 B v l w h
    · exact appq_22 B v l w h
    · exact appq_23 B v l w h
    · exact appq_24 B v l w h
    · exact appq_25 B v l w h
    · exact appq_26 B v l w h
    · exact appq_27 B v l w h
    · exact appq_28 B v l w h
    · exact appq_29 B v l w h
    · exact appq_30 B v l w h
    · exact appq_31 B v l w h
set_option maxRecDepth 100000 in
set_option maxHeartbeats 4000000 in
/-- Package utf's Quote. -/
theorem quote_any (s : ByteArray) (w : World) (hs : s.size ≤ 6000) : Calls Tryz.prog 120 #[.string s] w fun e w' => e = .returned (.string ⟨(quoted s.data.toList).toArray⟩) ∧ Fresh w w' := by
  obtain ⟨i0, hi, hz0, hz1, hz2⟩ := info_parts info5
  have hmk : (Instr.makeSlice 98 (.int .i64 0) (.int .i64 ((s.size : Int) + 2))).run Tryz.prog w = .ok (.slice (some ⟨w.heap.size, 0, none⟩) 0 (s.size + 2)) (w.alloc (.cells (madeCells #[.int .u8 0] (s.size + 2)) 5)) := by
    have := run_make (P := Tryz.prog) w 98 5 i0 (.int .u8 0) Tryz.underlying98 hi hz0 .i64 .i64 0 ((s.size : Int) + 2) (by omega) (by omega) (by rw [hz2]; omega) (by omega)
    rw [hz1, Nat.mul_one, show ((s.size : Int) + 2).toNat = s.size + 2 by omega] at this
    exact this
  have HM : Hid (Buf (w.alloc (.cells (madeCells #[.int .u8 0] (s.size + 2)) 5)) w.heap.size (.slice (some ⟨w.heap.size, 0, none⟩) 0 (s.size + 2)) []) :=
    World.ownsRow_made w _ (s.size + 2) (Nat.le_refl _) (by unfold maxLen; omega) (by rw [size_madeCells, Nat.mul_one])
  go_enter Tryz.func120, Tryz.ntmps120
  go_wp2_with (at_builtin; refine wpList_append_lies _ rfl _ _ 98 rfl w.heap.size 5 i0 (.int .u8 0) 1 1 Tryz.underlying98 hi hz0 hz1 hz2 rfl (by decide) (.slice (some ⟨w.heap.size, 0, none⟩) 0 (s.size + 2)) 0 (vals []) rfl (HM.out.alloc _) ⟨w.heap.size + 1, 0, none⟩ 1 1 (vals [34]) rfl rfl (by have := news_at (w.alloc (.cells (madeCells #[.int .u8 0] (s.size + 2)) 5)) #[.int .u8 34] [34] rfl; rw [World.size_alloc] at this; exact this) (vals_one _) (by decide) (by unfold maxLen; omega) (by omega) (by simp; omega) (w.heap.size + 1 + 1) (by simp) ?_; intro g cap w1 hown hgrow hat hlt; have HB1 := Lib.hid (show Buf w1 w.heap.size (.slice (some ⟨g, 0, none⟩) 1 cap) [34] from Buf.more (l := []) hown rfl); have HF1 := Lib.hid ((((Fresh.refl w).alloc _).alloc _).below (Below.grown (Below.refl w.heap.size _) hgrow (by simp; omega) (fun k e => by cases e; exact Nat.le_refl _)) (Nat.le_refl _)); clear hown hgrow hat hlt)
  clear hmk HM
  go_loopw [3, 13] (fun a3 a13 wr => ∃ g n cap k : Nat, k ≤ s.size ∧ a3 = .slice (some ⟨g, 0, none⟩) n cap ∧ a13 = .int .i64 k ∧ Hid (Buf wr w.heap.size (.slice (some ⟨g, 0, none⟩) n cap) (34 :: qL (s.data.toList.take k))) ∧ Hid (Fresh w wr)) (fun _ a13 _ => s.size - (intOf a13).toNat)
  case atStart => exact ⟨_, _, _, 0, Nat.zero_le _, rfl, rfl, HB1.out, HF1.out⟩
  case round =>
    obtain ⟨g, n, cap, k, hk, rfl, rfl, HB, HF⟩ := hrel
    clear HB1 HF1
    have HL : Hid ((34 :: qL (s.data.toList.take k)).length ≤ 60000) := by
      have h1 := qL_len (s.data.toList.take k)
      have h2 : (s.data.toList.take k).length ≤ k := List.length_take_le _ _
      rw [Hid, List.length_cons]; omega
    have HRD : Hid (Rd wr w.heap.size (.slice (some ⟨g, 0, none⟩) n cap) (34 :: qL (s.data.toList.take k))) := ⟨HB.out, HF.out.size, by have := HL.out; omega⟩
    by_cases hlt : k < s.size
    · have HT := Lib.hid (take_snoc s k hlt)
      go_wp2_with fail
      refine (appq_any _ w.heap.size _ _ _ HRD.out).mono ?_
      rintro e w2 ⟨g2, cap2, he, hb2, hf2⟩
      have hb3 : Buf w2 w.heap.size (.slice (some ⟨g2, 0, none⟩) ((34 :: qL (s.data.toList.take k)).length + (qB s[k]).length) cap2) (34 :: qL (s.data.toList.take (k + 1))) := by
        rw [HT.out, qL_snoc]; exact hb2
      clear hb2
      generalize (34 :: qL (s.data.toList.take k)).length + (qB s[k]).length = n2 at he hb3
      subst he
      have HB3 := Lib.hid hb3
      have HF3 := Lib.hid (HF.out.below hf2 (Nat.le_refl _))
      clear hb3 hf2
      go_wp2
      go_roundw
      case rel => exact ⟨g2, n2, cap2, k + 1, by omega, rfl, by go_num, HB3.out, HF3.out⟩
      case measure => simp [intOf]; omega
    · obtain rfl : k = s.size := by omega
      have HQ : Hid ((34 :: qL (s.data.toList.take s.size)) ++ [34] = quoted s.data.toList) := by
        rw [Hid, List.take_of_length_le (by simp), quoted]; rfl
      have hw1 := HF.out.size
      have HN : Hid (n = (34 :: qL (s.data.toList.take s.size)).length) := (Buf.text HB.out).1
      generalize 34 :: qL (s.data.toList.take s.size) = L at *
      obtain rfl : n = L.length := HN.out
      have hL := HL.out
      go_wp2_with (at_builtin; refine wpList_append_lies _ rfl _ _ 98 rfl w.heap.size 5 i0 (.int .u8 0) 1 1 Tryz.underlying98 hi hz0 hz1 hz2 rfl (by decide) (.slice (some ⟨g, 0, none⟩) L.length cap) L.length (vals L) rfl (HB.out.alloc _) ⟨wr.heap.size, 0, none⟩ 1 1 (vals [34]) rfl rfl (news_at wr _ _ rfl) (vals_one _) (by decide) (HRD.out.m1 (by decide)) (by omega) HRD.out.m3 (wr.heap.size + 1) (by simp) ?_; intro g2 cap2 w2 hown hgrow hat hlt2; have HB2 := Lib.hid (show Buf w2 w.heap.size (.slice (some ⟨g2, 0, none⟩) (L.length + 1) cap2) (L ++ [34]) from Buf.more hown rfl); have HF2 := Lib.hid ((HF.out.alloc _).below (Below.grown (Below.refl w.heap.size _) hgrow HRD.out.m3 (fun k e => (HB.out.lt k e).1)) (Nat.le_refl _)); clear hown hgrow hat hlt2; have hcv := (Buf.text HB2.out).2)
      go_ret
      exact ⟨ret_string (by rw [HQ.out]), HF2.out⟩
theorem hexB_lo (n : Nat) (h : n < 10) : ((hexB n).toNat : Int) = 48 + n := by
  unfold hexB
  rw [if_pos h, UInt8.toNat_ofNat']
  omega
theorem hexB_hi (n : Nat) (h : 10 ≤ n) (h2 : n < 16) : ((hexB n).toNat : Int) = 87 + n := by
  unfold hexB
  rw [if_neg (by omega), UInt8.toNat_ofNat']
  omega
end Go.Proofs.YtldncgelghcjeaaGreatDoor
namespace Go.Proofs.YtldncgelghcjeaaGreatDoor
open Go.ChangeShapes Go.WideShapes Go.ChangeAt Go.RowKit
attribute [local go_sem ↓] Go.wp_at_zero Go.wp_at_succ
variable {w : World}

theorem item_plain (c : UInt8) (cs : List UInt8) (h0 : 32 ≤ c.toNat) (h34 : c.toNat ≠ 34) (h92 : c.toNat ≠ 92) (h : Tail c cs) : Item (c :: cs) (c :: cs) :=
  ⟨⟨c, cs, rfl, h34⟩, fun b rest v text w hT hl hr => char_plain b c cs rest v text w hT h0 h92 (h.dec rest) h.valid (by have := h.len; simp; omega) hl hr⟩
theorem item_esc {y : UInt8} {m : List UInt8} (hE : ∀ (b : Nat) (rest : List UInt8) (v : Value) (text : List UInt8) (w : World), text.length ≤ 1000000 → Rdr w b (y :: rest) v text → Calls Tryz.prog 166 #[.pointer (some ⟨b, 0, none⟩)] w (Reads w b rest (text ++ m) 0)) : Item [92, y] m :=
  ⟨⟨92, [y], rfl, by decide⟩, fun b rest v text w _ hl hr => char_esc b (y :: rest) rest v text (text ++ m) w hr (fun W h => hE b rest v text W (by omega) h)⟩
theorem item_u {ds m : List UInt8} (h4 : ds.length = 4) (hd : ∀ c ∈ ds, isDig c) (h0 : 0 ≤ valD ds) (h1 : valD ds < 55296) (hm : Lib.runeCells (valD ds) = vals m) (hm0 : 0 < m.length) : Item (92 :: 117 :: ds) m :=
  ⟨⟨92, 117 :: ds, rfl, by decide⟩, fun b rest v text w _ hl hr => char_esc b (117 :: (ds ++ rest)) rest v text (text ++ m) w hr (fun W h => escape_u b (ds ++ rest) rest v text (text ++ m) W h (fun W2 h2 => byNumber_any b ds rest v text m W2 h4 hd h0 h1 hm hm0 (by omega) h2))⟩
theorem hexB_dig (n : Nat) (h : n < 16) : isDig (hexB n) ∧ dv (hexB n) = n := by
  by_cases hc : n < 10
  · have := hexB_lo n hc
    refine ⟨.inl (by omega), ?_⟩
    rw [dv, if_pos (by omega)]; omega
  · have := hexB_hi n (by omega) h
    refine ⟨.inr (by omega), ?_⟩
    rw [dv, if_neg (by omega)]; omega
theorem tail_nil (c : UInt8) (h : c.toNat < 128) : Tail c [] :=
  ⟨by simp, by rw [Lib.validD_cons _ _ h]; rfl, by simp, fun rest => by
    rw [dec_bs _ (by simp)]
    show (Lib.decodeN _ c.toNat _ _ _).2 = 1
    simp [Lib.decodeN, h]⟩
theorem item_q (c : UInt8) (h : c.toNat < 128) : Item (qB c) [c] := by
  by_cases h34 : c.toNat = 34
  · obtain rfl := c_of h34
    exact item_esc escape_34
  by_cases h92 : c.toNat = 92
  · obtain rfl := c_of h92
    exact item_esc escape_92
  by_cases h10 : c.toNat = 10
  · obtain rfl := c_of h10
    exact item_esc escape_110
  by_cases h13 : c.toNat = 13
  · obtain rfl := c_of h13
    exact item_esc escape_114
  by_cases h9 : c.toNat = 9
  · obtain rfl := c_of h9
    exact item_esc escape_116
  by_cases h8 : c.toNat = 8
  · obtain rfl := c_of h8
    exact item_esc escape_98
  by_cases h12 : c.toNat = 12
  · obtain rfl := c_of h12
    exact item_esc escape_102
  have ne : ∀ n : Nat, c.toNat ≠ n → n < 256 → ¬ c = UInt8.ofNat n := fun n h hn e => h (by rw [e, UInt8.toNat_ofNat']; omega)
  have e : qB c = if c.toNat < 32 then [92, 117, 48, 48, hexB (c.toNat / 16), hexB (c.toNat % 16)] else [c] := by
    rw [qB, if_neg (by rintro (h | h); exact ne 34 h34 (by omega) h; exact ne 92 h92 (by omega) h), if_neg (show ¬ c = 10 from ne 10 h10 (by omega)), if_neg (show ¬ c = 13 from ne 13 h13 (by omega)), if_neg (show ¬ c = 9 from ne 9 h9 (by omega)), if_neg (show ¬ c = 8 from ne 8 h8 (by omega)), if_neg (show ¬ c = 12 from ne 12 h12 (by omega))]
  rw [e]
  by_cases h32 : c.toNat < 32
  · rw [if_pos h32]
    have d1 := hexB_dig (c.toNat / 16) (by omega)
    have d2 := hexB_dig (c.toNat % 16) (by omega)
    have d0 : isDig 48 ∧ dv 48 = 0 := hexB_dig 0 (by omega)
    have hv : valD [48, 48, hexB (c.toNat / 16), hexB (c.toNat % 16)] = (c.toNat : Int) := by
      simp only [valD, List.foldl_cons, List.foldl_nil, d0.2, d1.2, d2.2]
      omega
    refine item_u rfl ?_ (by rw [hv]; omega) (by rw [hv]; omega) ?_ (by simp)
    · intro x hx
      simp only [List.mem_cons, List.not_mem_nil, or_false] at hx
      rcases hx with rfl | rfl | rfl | rfl
      · exact d0.1
      · exact d0.1
      · exact d1.1
      · exact d2.1
    · rw [hv]
      simp [Lib.runeCells, Lib.encodeRuneZ_one (show 0 ≤ (c.toNat : Int) by omega) (show (c.toNat : Int) ≤ 127 by omega), vals]
  · rw [if_neg h32]
    exact item_plain c [] (by omega) h34 h92 (tail_nil c h)
theorem qL_high : ∀ cs : List UInt8, (∀ b ∈ cs, 128 ≤ b.toNat) → qL cs = cs
  | [], _ => rfl
  | c :: cs, h => by
    have hc := h c (by simp)
    have n : ∀ d : UInt8, d.toNat < 128 → ¬ c = d := fun d hd e => by subst e; omega
    have e : qB c = [c] := by
      rw [qB, if_neg (by rintro (h | h); exact n 34 (by decide) h; exact n 92 (by decide) h), if_neg (n 10 (by decide)), if_neg (n 13 (by decide)), if_neg (n 9 (by decide)), if_neg (n 8 (by decide)), if_neg (n 12 (by decide)), if_neg (by omega)]
    have ih := qL_high cs (fun b hb => h b (by simp [hb]))
    show qB c ++ qL cs = c :: cs
    rw [e, ih]; rfl
theorem qL_app (l m : List UInt8) : qL (l ++ m) = qL l ++ qL m := by simp [qL]
/-- What is quoted is read as it was. -/
theorem un_q : ∀ (n : Nat) (l : List UInt8), l.length ≤ n → Lib.validD l = true → Un (qL l) l
  | _, [], _, _ => .nil
  | 0, _ :: _, h, _ => by simp at h
  | n + 1, c :: l, h, hv => by
    by_cases hc : c.toNat < 128
    · rw [Lib.validD_cons _ _ hc] at hv
      exact .step (qB c) [c] (qL l) l (item_q c hc) (un_q n l (by simp at h; omega) hv)
    · obtain ⟨cs, l2, rfl, ht, hv2⟩ := lead_split c l (by omega) hv
      have e : qL (c :: (cs ++ l2)) = (c :: cs) ++ qL l2 := by
        rw [← List.cons_append, qL_app, qL_high (c :: cs) (fun b hb => by
          rcases List.mem_cons.1 hb with rfl | hb
          · omega
          · exact ht.high b hb)]
      rw [e]
      exact .step (c :: cs) (c :: cs) (qL l2) l2 (item_plain c cs (by omega) (by omega) (by omega) ht) (un_q n l2 (by simp at h; omega) hv2)
theorem un_awake : Un [92, 117, 48, 48, 101, 57] [195, 169] := by
  have hv : valD [48, 48, 101, 57] = 233 := by decide
  exact .step [92, 117, 48, 48, 101, 57] [195, 169] [] [] (item_u rfl (by
    intro x hx
    simp only [List.mem_cons, List.not_mem_nil, or_false] at hx
    rcases hx with rfl | rfl | rfl | rfl <;> (unfold isDig; decide)) (by rw [hv]; decide) (by rw [hv]; decide) (by rw [hv]; rfl) (by decide)) .nil
/-- The document's example. -/
theorem awake_any (w : World) (hT : Tabs w) : Calls Tryz.prog 83 #[] w fun e w' => e = .returned (.bool true) ∧ Fresh w w' := by
  have HU : Hid (Calls Tryz.prog 119 #[.string ⟨#[34, 92, 117, 48, 48, 101, 57, 34]⟩] w fun e w' => e = .returned (.tuple #[.string ⟨#[195, 169]⟩, .int .i64 8, .int .i64 0]) ∧ Fresh w w') :=
    unquote_any [92, 117, 48, 48, 101, 57] [195, 169] [] w un_awake (by decide) (by decide) hT
  have HQ : Hid (∀ W, Calls Tryz.prog 120 #[.string ⟨#[97, 34, 10]⟩] W fun e w' => e = .returned (.string ⟨#[34, 97, 92, 34, 92, 110, 34]⟩) ∧ Fresh W w') := fun W => quote_any ⟨#[97, 34, 10]⟩ W (by decide)
  clear hT
  go_enter Tryz.func83, Tryz.ntmps83
  go_wp2_with fail
  refine HU.out.mono ?_
  rintro e w1 ⟨rfl, hf1⟩
  have HF1 := Lib.hid hf1
  clear hf1
  go_wp2_with fail
  refine (HQ.out _).mono ?_
  rintro e w2 ⟨rfl, hf2⟩
  have HF2 := Lib.hid (HF1.out.trans hf2)
  clear hf2
  go_wp2
  go_ret
  exact ⟨rfl, HF2.out⟩
end Go.Proofs.YtldncgelghcjeaaGreatDoor
namespace Go.Proofs.YtldncgelghcjeaaGreatDoor
open Go.ChangeShapes Go.WideShapes Go.ChangeAt Go.RowKit
attribute [local go_sem ↓] Go.wp_at_zero Go.wp_at_succ

theorem var13_any (w : World) : Calls Tryz.prog 123 #[.string ⟨#[95, 88]⟩] w fun e w' => e = .returned (.bool true) ∧ w = w' := variable_any ⟨#[95, 88]⟩ w (by decide)
theorem awake13_any (w : World) : Calls Tryz.prog 84 #[] w fun e w' => e = .returned (.bool true) ∧ Fresh w w' := by
  have HL1 : Hid (∀ W, Calls Tryz.prog 121 #[.string ⟨#[97, 45, 49]⟩] W fun e w' => e = .returned (.bool true) ∧ W = w') := fun W => label_any ⟨#[97, 45, 49]⟩ W (by decide)
  have HL2 : Hid (∀ W, Calls Tryz.prog 121 #[.string ⟨#[45, 97]⟩] W fun e w' => e = .returned (.bool false) ∧ W = w') := fun W => label_any ⟨#[45, 97]⟩ W (by decide)
  have HN : Hid (∀ W, Calls Tryz.prog 122 #[.string ⟨#[97, 46, 98, 45, 99]⟩] W fun e w' => e = .returned (.bool true) ∧ Fresh W w') := fun W => name_any [97, 46, 98, 45, 99] W (by decide)
  have HV := Lib.hid (fun W => var13_any W)
  go_enter Tryz.func84, Tryz.ntmps84
  go_wp2_with (fail)
  refine (HL1.out _).mono ?_
  rintro e w' ⟨rfl, rfl⟩
  go_wp2_with (fail)
  refine (HL2.out _).mono ?_
  rintro e w' ⟨rfl, rfl⟩
  go_wp2_with (fail)
  refine (HN.out _).mono ?_
  rintro e w1 ⟨rfl, hf⟩
  go_wp2_with (fail)
  refine (HV.out _).mono ?_
  rintro e w' ⟨rfl, rfl⟩
  go_wp2
  go_ret
  exact ⟨rfl, hf⟩
/-- The document's pod. -/
def exC : Ct := ⟨⟨#[99]⟩, ⟨#[110, 103, 105, 110, 120]⟩, [], [], 0, 0, []⟩
def exPd : Pd := ⟨⟨#[119, 101, 98]⟩, ⟨#[]⟩, 0, 0, false, [exC]⟩
def exM : CM := ⟨exC, none, 0, none, 0, none, 0⟩
def exP (a : Option Addr) : PM := ⟨⟨#[119, 101, 98]⟩, ⟨#[]⟩, 0, 0, false, a, 1, [exM]⟩
theorem exP_pd (a : Option Addr) : (exP a).pd = exPd := rfl
theorem ex_bad : podE exPd = 13 := by decide +kernel
theorem ex_good : podE (defP exPd) = 0 := by decide +kernel
theorem exC_low : exC.Low where
  name := by decide
  image := by decide
  lc := by decide
  lp := by decide
  le := by decide
  cmd := fun s h => by cases h
  env := fun s h => by cases h
  icpu := by decide
  imem := by decide
  ip := fun s h => by cases h
theorem exP_low (a : Option Addr) : (exP a).Low where
  name := by show ByteArray.size ⟨#[119, 101, 98]⟩ ≤ _; decide
  ns := by show ByteArray.size ⟨#[]⟩ ≤ _; decide
  ir := by show (Lit.int .i64 0).wf = true; decide
  ig := by show (Lit.int .i64 0).wf = true; decide
  len := by show 1 ≤ _; decide
  cs := fun m hm => by rw [List.mem_singleton.1 hm]; exact exC_low
theorem exC_sml : exC.Sml where
  name := by decide
  image := by decide
  lc := by decide
  lp := by decide
  le := by decide
  cmd := fun s h => by cases h
  env := fun s h => by cases h
theorem defC_sml {c : Ct} (h : c.Sml) : (defC c).Sml := ⟨h.name, h.image, h.lc, h.lp, h.le, h.cmd, h.env⟩
set_option maxRecDepth 100000 in
theorem example_any (w : World) : Calls Tryz.prog 81 #[] w fun e w' => ∃ a, e = .returned (exP a).val ∧ (exP a).At w' ∧ Fresh w w' := by
  go_enter Tryz.func81, Tryz.ntmps81
  go_wp2
  have h1 := at_alloc (p := .cells #[.string ⟨#[99]⟩, .string ⟨#[110, 103, 105, 110, 120]⟩, .slice none 0 0, .slice none 0 0, .int .i64 0, .int .i64 0, .slice none 0 0] 126) (at_new w (.cells #[.string ⟨#[119, 101, 98]⟩, .string ⟨#[]⟩, .int .i64 0, .int .i64 0, .bool false, .slice (some ⟨w.heap.size + 1, 0, none⟩) 1 1] 41))
  have h2 := at_new (w.alloc (.cells #[.string ⟨#[119, 101, 98]⟩, .string ⟨#[]⟩, .int .i64 0, .int .i64 0, .bool false, .slice (some ⟨w.heap.size + 1, 0, none⟩) 1 1] 41)) (.cells #[.string ⟨#[99]⟩, .string ⟨#[110, 103, 105, 110, 120]⟩, .slice none 0 0, .slice none 0 0, .int .i64 0, .int .i64 0, .slice none 0 0] 126)
  rw [World.size_alloc] at h2
  have h3 := ((Fresh.refl w).alloc (.cells #[.string ⟨#[119, 101, 98]⟩, .string ⟨#[]⟩, .int .i64 0, .int .i64 0, .bool false, .slice (some ⟨w.heap.size + 1, 0, none⟩) 1 1] 41)).alloc (.cells #[.string ⟨#[99]⟩, .string ⟨#[110, 103, 105, 110, 120]⟩, .slice none 0 0, .slice none 0 0, .int .i64 0, .int .i64 0, .slice none 0 0] 126)
  generalize (w.alloc (.cells #[.string ⟨#[119, 101, 98]⟩, .string ⟨#[]⟩, .int .i64 0, .int .i64 0, .bool false, .slice (some ⟨w.heap.size + 1, 0, none⟩) 1 1] 41)).alloc (.cells #[.string ⟨#[99]⟩, .string ⟨#[110, 103, 105, 110, 120]⟩, .slice none 0 0, .slice none 0 0, .int .i64 0, .int .i64 0, .slice none 0 0] 126) = W at *
  obtain ⟨⟨q0, q1, q2, q3, q4, q5⟩, _⟩ := box6p h1
  refine bodyPost_ret (v := (exP (some ⟨w.heap.size + 1, 0, none⟩)).val) (by simp [results, Tryz.f81, go_sem, exP, PM.val, *]) rfl ⟨_, rfl, ⟨?_, ?_, ?_⟩, h3⟩
  · refine .inr ⟨_, 0, rfl, fun j x hj => ?_⟩
    rw [Nat.zero_add]
    exact cell_of_at h2 (by simpa [ccells, CM.cells, exP, exM, exC] using hj)
  · intro m hm
    rw [List.mem_singleton.1 hm]
    exact ⟨.nil _ _, .nil _ _, .nil _ _, Nat.le_refl _⟩
  · exact Nat.le_refl _
theorem q_parts {q : PM} (h : q.pd = defP exPd) : ∃ a cap ca cc pa pc ea ec, q = ⟨⟨#[119, 101, 98]⟩, nsDef, 0, 30, false, a, cap, [⟨⟨⟨#[99]⟩, ⟨#[110, 103, 105, 110, 120]⟩, [], [], 100, 64, []⟩, ca, cc, pa, pc, ea, ec⟩]⟩ := by
  obtain ⟨name, ns, rs, gr, ho, a, cap, cs⟩ := q
  have h2 : Pd.mk name ns rs gr ho (cs.map (·.c)) = ⟨⟨#[119, 101, 98]⟩, nsDef, 0, 30, false, [⟨⟨#[99]⟩, ⟨#[110, 103, 105, 110, 120]⟩, [], [], 100, 64, []⟩]⟩ := h
  simp only [Pd.mk.injEq] at h2
  obtain ⟨rfl, rfl, rfl, rfl, rfl, h3⟩ := h2
  match cs, h3 with
  | [m], h3 =>
    obtain ⟨c, ca, cc, pa, pc, ea, ec⟩ := m
    simp only [List.map_cons, List.map_nil, List.cons.injEq, and_true] at h3
    subst h3
    exact ⟨a, cap, ca, cc, pa, pc, ea, ec, rfl⟩
  | [], h3 => simp at h3
  | _ :: _ :: _, h3 => simp at h3
theorem exDef_sml : (defP exPd).Sml where
  name := by show ByteArray.size ⟨#[119, 101, 98]⟩ ≤ _; decide
  ns := by show ByteArray.size nsDef ≤ _; decide
  len := by show 1 ≤ _; decide
  cs := fun c hc => by
    have : c = defC exC := List.mem_singleton.1 hc
    rw [this]; exact defC_sml exC_sml
theorem ex_sml : exPd.Sml where
  name := by show ByteArray.size ⟨#[119, 101, 98]⟩ ≤ _; decide
  ns := by show ByteArray.size ⟨#[]⟩ ≤ _; decide
  len := by show 1 ≤ _; decide
  cs := fun c hc => by
    have : c = exC := List.mem_singleton.1 hc
    rw [this]; exact exC_sml
set_option maxRecDepth 100000 in
set_option maxHeartbeats 2000000 in
theorem awake14_any (w : World) (hT : Tabs w) : Calls Tryz.prog 41 #[] w fun e w' => e = .returned (.bool true) ∧ Fresh w w' := by
  have HT := Lib.hid hT
  have HEX := Lib.hid (fun W => example_any W)
  have HA6 := Lib.hid (fun W (f : Fresh w W) => awake_any W (HT.out.move f))
  have HA13 := Lib.hid (fun W => awake13_any W)
  clear hT
  go_enter Tryz.func41, Tryz.ntmps41
  go_wp2_with (fail)
  refine (HEX.out _).mono ?_
  rintro e W1 ⟨a, rfl, hat, hf⟩
  have HDF := Lib.hid (default_any (exP a) W1 hat (exP_low a))
  have HF1 := Lib.hid hf
  clear hat hf
  rw [show (exP a).val = .agg #[.string ⟨#[119, 101, 98]⟩, .string ⟨#[]⟩, .int .i64 0, .int .i64 0, .bool false, .slice a 1 1] from rfl] at HDF ⊢
  go_wp2_with (fail)
  refine HDF.out.mono ?_
  rintro e W2 ⟨q, rfl, hpd, hq, hf2⟩
  replace hpd : q.pd = defP exPd := hpd
  have HF2 := Lib.hid (HF1.out.trans hf2)
  have hat := hq.at
  have HC1 := Lib.hid (fun W (f : Fresh W2 W) => check_any q W (HT.out.move (HF2.out.trans f)) (hat.move f) (by rw [hpd]; exact exDef_sml) (fun m hm => (hq.ins m hm).inn.room))
  rw [hpd, ex_good] at HC1
  obtain ⟨a2, cap, ca, cc, pa, pc, ea, ec, rfl⟩ := q_parts hpd
  have HR := Lib.hid (hq.row)
  clear hpd hq hf2 hat HDF
  rw [show (PM.mk ⟨#[119, 101, 98]⟩ nsDef 0 30 false a2 cap [⟨⟨⟨#[99]⟩, ⟨#[110, 103, 105, 110, 120]⟩, [], [], 100, 64, []⟩, ca, cc, pa, pc, ea, ec⟩]).val = .agg #[.string ⟨#[119, 101, 98]⟩, .string ⟨#[100, 101, 102, 97, 117, 108, 116]⟩, .int .i64 0, .int .i64 30, .bool false, .slice a2 1 cap] from rfl] at HC1 ⊢
  have HR1 : Hid (W2.ownsRow W1.heap.size 126 7 (.slice a2 1 cap) 1 [.string ⟨#[99]⟩, .string ⟨#[110, 103, 105, 110, 120]⟩, .slice ca 0 cc, .slice pa 0 pc, .int .i64 100, .int .i64 64, .slice ea 0 ec]) := HR.out
  obtain ⟨g, rfl, hgb, hcap⟩ := own_form HR1.out (i := 0) (by omega)
  have hc4 : W2.cell? ⟨g, 4, none⟩ = some (.int .i64 100) := (World.ownsRow.cellAt HR1.out 4 (by omega)).trans rfl
  have hc5 : W2.cell? ⟨g, 5, none⟩ = some (.int .i64 64) := (World.ownsRow.cellAt HR1.out 5 (by omega)).trans rfl
  have HB := Lib.hid (at_new W2 (.cells #[.string ⟨#[119, 101, 98]⟩, .string ⟨#[100, 101, 102, 97, 117, 108, 116]⟩, .int .i64 0, .int .i64 30, .bool false, .slice (some ⟨g, 0, none⟩) 1 cap] 41))
  have HFB := Lib.hid ((Fresh.refl W2).alloc (.cells #[.string ⟨#[119, 101, 98]⟩, .string ⟨#[100, 101, 102, 97, 117, 108, 116]⟩, .int .i64 0, .int .i64 30, .bool false, .slice (some ⟨g, 0, none⟩) 1 cap] 41))
  have HC45 : Hid (∀ W, Fresh W2 W → W.cell? ⟨g, 4, none⟩ = some (.int .i64 100) ∧ W.cell? ⟨g, 5, none⟩ = some (.int .i64 64)) := fun W f => ⟨f.cell hc4, f.cell hc5⟩
  clear hc4 hc5 HR HR1
  go_wp2_with (fail)
  generalize W2.alloc (.cells #[.string ⟨#[119, 101, 98]⟩, .string ⟨#[100, 101, 102, 97, 117, 108, 116]⟩, .int .i64 0, .int .i64 30, .bool false, .slice (some ⟨g, 0, none⟩) 1 cap] 41) = W3 at *
  obtain ⟨b, hb⟩ : ∃ b, b = W2.heap.size := ⟨_, rfl⟩
  rw [← hb] at HB ⊢
  clear hb
  refine (HA6.out _ (HF2.out.trans HFB.out)).mono ?_
  rintro e W4 ⟨rfl, hf⟩
  have HF4 := Lib.hid hf
  clear hf
  go_wp2_with (fail)
  refine (HA13.out _).mono ?_
  rintro e W5 ⟨rfl, hf⟩
  have HF5 := Lib.hid (HF4.out.trans hf)
  clear hf HF4
  obtain ⟨⟨q0, q1, q2, q3, q4, q5⟩, _⟩ := box6p (HF5.out.at HB.out)
  go_wp2_with (fail)
  refine (HC1.out _ (HFB.out.trans HF5.out)).mono ?_
  rintro e W6 ⟨rfl, hf⟩
  have HF6 := Lib.hid (HF5.out.trans hf)
  clear hf HF5 q0 q1 q2 q3 q4 q5
  obtain ⟨⟨q0, q1, q2, q3, q4, q5⟩, _⟩ := box6p (HF6.out.at HB.out)
  obtain ⟨r4, r5⟩ := HC45.out _ (HFB.out.trans HF6.out)
  go_wp2_with (fail)
  refine (HEX.out _).mono ?_
  rintro e W7 ⟨a3, rfl, hat, hf⟩
  have HF7 := Lib.hid (HF6.out.trans hf)
  have HC2 := Lib.hid (check_any (exP a3) W7 (HT.out.move ((HF2.out.trans HFB.out).trans HF7.out)) hat (by rw [exP_pd]; exact ex_sml) (fun m hm => by rw [List.mem_singleton.1 hm]; exact Nat.le_refl _))
  rw [exP_pd, ex_bad, show (exP a3).val = .agg #[.string ⟨#[119, 101, 98]⟩, .string ⟨#[]⟩, .int .i64 0, .int .i64 0, .bool false, .slice a3 1 1] from rfl] at HC2
  rw [show (exP a3).val = .agg #[.string ⟨#[119, 101, 98]⟩, .string ⟨#[]⟩, .int .i64 0, .int .i64 0, .bool false, .slice a3 1 1] from rfl]
  clear hf hat q0 q1 q2 q3 q4 q5 r4 r5
  go_wp2_with (fail)
  refine HC2.out.mono ?_
  rintro e W8 ⟨rfl, hf⟩
  have HF8 := Lib.hid (((HF2.out.trans HFB.out).trans HF7.out).trans hf)
  clear hf
  go_wp2
  go_ret
  exact ⟨rfl, HF8.out⟩
end Go.Proofs.YtldncgelghcjeaaGreatDoor
namespace Go.Proofs.YtldncgelghcjeaaGreatDoor.K
open Go.ChangeShapes Go.WideShapes Go.ChangeAt Go.RowKit
set_option maxRecDepth 100000

/-- Not great. -/
structure P3.Lo (p : P3) : Prop where
  file : p.file.size ≤ 1048576
  name : p.pd.name.size ≤ 1048576
  ns : p.pd.ns.size ≤ 1048576
  ir : (Lit.int .i64 p.pd.restart).wf = true
  ig : (Lit.int .i64 p.pd.grace).wf = true
  len : p.pd.cs.length ≤ 1048576
  cs : ∀ c ∈ p.pd.cs, c.Low
theorem P3.Lo.low {x : M3} (h : x.p.Lo) : x.m.Low := ⟨h.name, h.ns, h.ir, h.ig, by have := h.len; simpa [M3.p, PM.pd] using this, fun m hm => h.cs _ (List.mem_map_of_mem hm)⟩
theorem P3.Lo.fit {x : M3} (h : x.p.Lo) {w : World} (hin : x.m.At w) : x.Fit := ⟨Nat.le_trans h.file (by unfold maxLen; decide), h.low.sml, fun m hm => (hin.ins m hm).room⟩
theorem P3.Lo.sml {x : M3} (h : x.p.Lo) : x.Sml := ⟨Nat.le_trans h.file (by unfold maxLen; decide), h.low.sml, h.ir, h.ig⟩
theorem lit_wf {v : Int} (h0 : 0 ≤ v) (h1 : v < 4294967296) : (Lit.int .i64 v).wf = true := by
  have e1 : IntKind.i64.min = -9223372036854775808 := rfl
  have e2 : IntKind.i64.max = 9223372036854775807 := rfl
  simp only [Lit.wf, e1, e2, Bool.and_eq_true, decide_eq_true_eq]
  omega
/-- A row of pods that hold that. -/
def AtL (L : List P3) (w : World) (a : Option Addr) : Prop := ∃ D, pods3 D = L ∧ Row3 w a D
theorem AtL.move {L : List P3} {w w' : World} {a : Option Addr} (h : AtL L w a) (f : Fresh w w') : AtL L w' a := by
  obtain ⟨D, h1, h2⟩ := h
  exact ⟨D, h1, h2.move f⟩
theorem AtL.nil (w : World) (a : Option Addr) : AtL [] w a := ⟨[], rfl, Row3.nil _ _⟩
theorem of3_at (seq : Int) (a : Option Addr) (L : List P3) (c : Nat) (w : World) (h : AtL L w a) (hl : L.length ≤ 1048576) (hlo : ∀ p ∈ L, p.Lo) :
    Calls Tryz.prog 11 #[st3 seq a L.length c] w fun r w' => ∃ a c, r = .returned (st3 seq a L.length c) ∧ AtL L w' a ∧ Fresh w w' := by
  obtain ⟨D, rfl, hr⟩ := h
  rw [pods3_length] at hl ⊢
  refine (of3_any seq a D c w hr (by omega) (fun m hm => (hlo _ (pods3_mem hm)).low)).mono ?_
  rintro r w' ⟨a, c, E, rfl, h1, h2, h3⟩
  have hlen : E.length = D.length := by rw [← pods3_length E, h1, pods3_length]
  exact ⟨a, c, by rw [hlen], ⟨E, h1, h2⟩, h3⟩
theorem rsame3_at (s t : Int) (L M : List P3) (a a' : Option Addr) (c c' : Nat) (w : World) (h : AtL L w a) (h' : AtL M w a') (hl : L.length ≤ 1048576) (hlo : ∀ p ∈ L, p.Lo) (hlo' : ∀ p ∈ M, p.Lo) :
    Calls Tryz.prog 21 #[st3 s a L.length c, st3 t a' M.length c'] w fun e w' => e = .returned (.bool (same3 s t L M)) ∧ Fresh w w' := by
  obtain ⟨D, rfl, hr⟩ := h
  obtain ⟨E, rfl, hr'⟩ := h'
  rw [pods3_length] at hl ⊢
  rw [pods3_length]
  exact rsame3_any s t D E a a' c c' w hr hr' (by omega) (fun m hm => (hlo _ (pods3_mem hm)).low) (fun m hm => (hlo' _ (pods3_mem hm)).low)
theorem rcheck3_at (seq : Int) (a : Option Addr) (L : List P3) (c : Nat) (w : World) (h : AtL L w a) (hl : L.length ≤ 1048576) (hlo : ∀ p ∈ L, p.Lo) :
    Calls Tryz.prog 12 #[st3 seq a L.length c] w fun e w' => e = .returned (.int .i64 (chk3 L)) ∧ Fresh w w' := by
  obtain ⟨D, rfl, hr⟩ := h
  rw [pods3_length] at hl ⊢
  exact rcheck3_any seq a D c w hr (fun m hm => (hlo _ (pods3_mem hm)).sml) (by omega)
theorem check3_at (seq : Int) (a : Option Addr) (L : List P3) (c : Nat) (w : World) (hT : Tabs w) (h : AtL L w a) (hl : L.length ≤ 1048576) (hlo : ∀ p ∈ L, p.Lo) :
    Calls Tryz.prog 14 #[st3 seq a L.length c] w fun e w' => e = .returned (.int .i64 (chk3 L)) ∧ Fresh w w' := by
  obtain ⟨D, rfl, hr⟩ := h
  rw [pods3_length] at hl ⊢
  exact check3_any seq a D c w hT hr (fun m hm => (hlo _ (pods3_mem hm)).fit (hr.ins m hm)) (by omega)
theorem encode3_at_ok (seq : Int) (a : Option Addr) (L : List P3) (c : Nat) (w : World) (hT : Tabs w) (h : AtL L w a) (hl : L.length ≤ 1048576) (hlo : ∀ p ∈ L, p.Lo) (h0 : chk3 L = 0) (hs0 : 0 ≤ seq) (hs1 : seq ≤ 18446744073709551615) :
    Calls Tryz.prog 13 #[st3 seq a L.length c] w fun e w' => e = .returned (.tuple #[.string (tx (enc3L seq L)), .int .i64 0]) ∧ Fresh w w' := by
  obtain ⟨D, rfl, hr⟩ := h
  rw [pods3_length] at hl ⊢
  exact encode3_ok seq a D c w hT hr (fun m hm => (hlo _ (pods3_mem hm)).fit (hr.ins m hm)) (by omega) h0 hs0 hs1
theorem encode3_at_bad (seq : Int) (a : Option Addr) (L : List P3) (c : Nat) (w : World) (hT : Tabs w) (h : AtL L w a) (hl : L.length ≤ 1048576) (hlo : ∀ p ∈ L, p.Lo) (h0 : chk3 L ≠ 0) :
    Calls Tryz.prog 13 #[st3 seq a L.length c] w fun e w' => e = .returned (.tuple #[.string ⟨#[]⟩, .int .i64 (chk3 L)]) ∧ Fresh w w' := by
  obtain ⟨D, rfl, hr⟩ := h
  rw [pods3_length] at hl ⊢
  exact encode3_bad seq a D c w hT hr (fun m hm => (hlo _ (pods3_mem hm)).fit (hr.ins m hm)) (by omega) h0
/-! ### awake -/
theorem ex3_bytes : tx (enc3L 1 []) = ⟨#[0, 0, 0, 0, 0, 0, 0, 1, 0, 0]⟩ := by decide +kernel
theorem ex3_encode (w : World) (hT : Tabs w) : Calls Tryz.prog 13 #[.agg #[.int .u64 1, .slice none 0 0]] w fun e w' => e = .returned (.tuple #[.string ⟨#[0, 0, 0, 0, 0, 0, 0, 1, 0, 0]⟩, .int .i64 0]) ∧ Fresh w w' := by
  have := encode3_at_ok 1 none [] 0 w hT (AtL.nil _ _) (by simp) (by simp) rfl (by decide) (by decide)
  rw [ex3_bytes] at this
  exact this
theorem awake19_any (w : World) (hT : Tabs w) : Calls Tryz.prog 10 #[] w fun e w' => e = .returned (.bool true) ∧ Fresh w w' := by
  have HT := Lib.hid hT
  have H1 := Lib.hid (ex3_encode w hT)
  have H2 := Lib.hid (fun W (f : Fresh w W) => awake14_any W (HT.out.move f))
  have H3 := Lib.hid (fun W => awake17_any W)
  clear hT
  go_enter Tryz.func10, Tryz.ntmps10
  go_wp2_with (fail)
  refine H1.out.mono ?_
  rintro e w1 ⟨rfl, hf⟩
  have HF := Lib.hid hf
  clear hf
  go_wp2_with (fail)
  refine (H2.out _ HF.out).mono ?_
  rintro e w2 ⟨rfl, hf⟩
  have HF := Lib.hid (HF.out.trans hf)
  clear hf
  go_wp2_with (fail)
  refine (H3.out _).mono ?_
  rintro e w3 ⟨rfl, hf⟩
  have HF := Lib.hid (HF.out.trans hf)
  clear hf
  go_wp2
  go_ret
  exact ⟨rfl, HF.out⟩
end Go.Proofs.YtldncgelghcjeaaGreatDoor.K
