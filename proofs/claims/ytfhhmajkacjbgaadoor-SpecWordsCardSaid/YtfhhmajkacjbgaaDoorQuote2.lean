/-
  Quote, by package utf and by the document: what a whole text is, quoted.
-/
import Derived.Test.YtfhhmajkacjbgaaDoorQuote
namespace Go.Proofs.YtfhhmajkacjbgaaDoor
open Go.ChangeShapes Go.WideShapes Go.ChangeAt Go.RowKit
attribute [local go_sem ↓] Go.wp_at_zero Go.wp_at_succ
variable {w : World}

set_option maxRecDepth 100000 in
set_option maxHeartbeats 4000000 in
theorem appq_34 (B : Nat) (v : Value) (l : List UInt8) (w : World) (h : Rd w B v l) : Calls Tryd.prog 71 #[v, .int .u8 34] w (Put w B l [92, 34]) := by
  obtain ⟨i0, hi, hz0, hz1, hz2⟩ := info_parts info5
  have H := Lib.hid h
  have hx := Lib.hid (show Lib.indexByte (⟨#[8, 12, 10, 13, 9]⟩ : ByteArray).data.toList (34 : Int).toNat.toUInt8 = -1 by decide)
  clear h
  go_enter Tryd.func71, Tryd.ntmps71
  go_wp2_with (first
    | (go_at_call 86; refine (idx_any _ _ _ _ hx.out).mono ?_; rintro e w' ⟨rfl, rfl⟩)
    | (at_builtin; refine wpList_append_lies _ rfl _ _ 101 rfl B 5 i0 (.int .u8 0) 1 1 Tryd.underlying101 hi hz0 hz1 hz2 rfl (by decide) v l.length (vals l) rfl (H.out.buf.alloc _) ⟨w.heap.size, 0, none⟩ 2 2 (vals [92, 34]) rfl rfl (news_at w _ _ rfl) (vals_one _) (by decide) (H.out.m1 (by decide)) (H.out.m2 (by decide)) H.out.m3 (w.heap.size + 1) (by simp) ?_; intro g cap w1 hown hgrow hat hlt; have HP := Lib.hid (put_of H.out.buf H.out.low rfl hown hgrow); clear hown hgrow hat hlt))
  go_ret
  exact HP.out
set_option maxRecDepth 100000 in
set_option maxHeartbeats 4000000 in
theorem appq_92 (B : Nat) (v : Value) (l : List UInt8) (w : World) (h : Rd w B v l) : Calls Tryd.prog 71 #[v, .int .u8 92] w (Put w B l [92, 92]) := by
  obtain ⟨i0, hi, hz0, hz1, hz2⟩ := info_parts info5
  have H := Lib.hid h
  have hx := Lib.hid (show Lib.indexByte (⟨#[8, 12, 10, 13, 9]⟩ : ByteArray).data.toList (92 : Int).toNat.toUInt8 = -1 by decide)
  clear h
  go_enter Tryd.func71, Tryd.ntmps71
  go_wp2_with (first
    | (go_at_call 86; refine (idx_any _ _ _ _ hx.out).mono ?_; rintro e w' ⟨rfl, rfl⟩)
    | (at_builtin; refine wpList_append_lies _ rfl _ _ 101 rfl B 5 i0 (.int .u8 0) 1 1 Tryd.underlying101 hi hz0 hz1 hz2 rfl (by decide) v l.length (vals l) rfl (H.out.buf.alloc _) ⟨w.heap.size, 0, none⟩ 2 2 (vals [92, 92]) rfl rfl (news_at w _ _ rfl) (vals_one _) (by decide) (H.out.m1 (by decide)) (H.out.m2 (by decide)) H.out.m3 (w.heap.size + 1) (by simp) ?_; intro g cap w1 hown hgrow hat hlt; have HP := Lib.hid (put_of H.out.buf H.out.low rfl hown hgrow); clear hown hgrow hat hlt))
  go_ret
  exact HP.out
theorem idx_none (c : UInt8) (h : 32 ≤ c.toNat) : Lib.indexByte (⟨#[8, 12, 10, 13, 9]⟩ : ByteArray).data.toList (c.toNat : Int).toNat.toUInt8 = -1 := by
  have e : (c.toNat : Int).toNat.toUInt8 = c := by simp
  rw [e]
  have n : ∀ d : UInt8, d.toNat < 32 → (d == c) = false := fun d hd => by
    rw [beq_eq_false_iff_ne]; intro e; subst e; omega
  show Lib.indexByte [8, 12, 10, 13, 9] c = -1
  simp [Lib.indexByte, n 8 (by decide), n 12 (by decide), n 10 (by decide), n 13 (by decide), n 9 (by decide)]
set_option maxRecDepth 100000 in
set_option maxHeartbeats 4000000 in
theorem appq_plain (c : UInt8) (h0 : 32 ≤ c.toNat) (h1 : c.toNat ≠ 34) (h2 : c.toNat ≠ 92) (B : Nat) (v : Value) (l : List UInt8) (w : World) (h : Rd w B v l) : Calls Tryd.prog 71 #[v, .int .u8 (c.toNat : Int)] w (Put w B l [c]) := by
  obtain ⟨i0, hi, hz0, hz1, hz2⟩ := info_parts info5
  have H := Lib.hid h
  have hx := Lib.hid (idx_none c h0)
  have e1 : ((c.toNat : Int) == 34) = false := by rw [beq_eq_false_iff_ne]; omega
  have e2 : ((c.toNat : Int) == 92) = false := by rw [beq_eq_false_iff_ne]; omega
  have e3 : ¬ (c.toNat : Int) < 32 := by omega
  clear h h0 h1 h2
  go_enter Tryd.func71, Tryd.ntmps71
  go_wp2_with (first
    | (go_at_call 86; refine (idx_any _ _ _ _ hx.out).mono ?_; rintro e w' ⟨rfl, rfl⟩)
    | (at_builtin; refine wpList_append_lies _ rfl _ _ 101 rfl B 5 i0 (.int .u8 0) 1 1 Tryd.underlying101 hi hz0 hz1 hz2 rfl (by decide) v l.length (vals l) rfl (H.out.buf.alloc _) ⟨w.heap.size, 0, none⟩ 1 1 (vals [c]) rfl rfl (news_at w _ _ rfl) (vals_one _) (by decide) (H.out.m1 (by decide)) (H.out.m2 (by decide)) H.out.m3 (w.heap.size + 1) (by simp) ?_; intro g cap w1 hown hgrow hat hlt; have HP := Lib.hid (put_of H.out.buf H.out.low rfl hown hgrow); clear hown hgrow hat hlt))
  go_ret
  exact HP.out
theorem appq_any (c : UInt8) (B : Nat) (v : Value) (l : List UInt8) (w : World) (h : Rd w B v l) : Calls Tryd.prog 71 #[v, .int .u8 (c.toNat : Int)] w (Put w B l (qB c)) := by
  by_cases h0 : 32 ≤ c.toNat
  · by_cases h1 : c.toNat = 34
    · obtain rfl := c_of h1
      exact appq_34 B v l w h
    by_cases h2 : c.toNat = 92
    · obtain rfl := c_of h2
      exact appq_92 B v l w h
    have e : qB c = [c] := by
      have n : ∀ d : UInt8, d.toNat < 32 → ¬ c = d := fun d hd e => by subst e; omega
      rw [qB, if_neg (by rintro (rfl | rfl); exact h1 rfl; exact h2 rfl), if_neg (n 10 (by decide)), if_neg (n 13 (by decide)), if_neg (n 9 (by decide)), if_neg (n 8 (by decide)), if_neg (n 12 (by decide)), if_neg (by omega)]
    rw [e]
    exact appq_plain c h0 h1 h2 B v l w h
  · have hn : c.toNat = 0 ∨ c.toNat = 1 ∨ c.toNat = 2 ∨ c.toNat = 3 ∨ c.toNat = 4 ∨ c.toNat = 5 ∨ c.toNat = 6 ∨ c.toNat = 7 ∨ c.toNat = 8 ∨ c.toNat = 9 ∨ c.toNat = 10 ∨ c.toNat = 11 ∨ c.toNat = 12 ∨ c.toNat = 13 ∨ c.toNat = 14 ∨ c.toNat = 15 ∨ c.toNat = 16 ∨ c.toNat = 17 ∨ c.toNat = 18 ∨ c.toNat = 19 ∨ c.toNat = 20 ∨ c.toNat = 21 ∨ c.toNat = 22 ∨ c.toNat = 23 ∨ c.toNat = 24 ∨ c.toNat = 25 ∨ c.toNat = 26 ∨ c.toNat = 27 ∨ c.toNat = 28 ∨ c.toNat = 29 ∨ c.toNat = 30 ∨ c.toNat = 31 := by omega
    rcases hn with h1 | h1 | h1 | h1 | h1 | h1 | h1 | h1 | h1 | h1 | h1 | h1 | h1 | h1 | h1 | h1 | h1 | h1 | h1 | h1 | h1 | h1 | h1 | h1 | h1 | h1 | h1 | h1 | h1 | h1 | h1 | h1
    all_goals obtain rfl := c_of h1
    · exact appq_0 B v l w h
    · exact appq_1 B v l w h
    · exact appq_2 B v l w h
    · exact appq_3 B v l w h
    · exact appq_4 B v l w h
    · exact appq_5 B v l w h
    · exact appq_6 B v l w h
    · exact appq_7 B v l w h
    · exact appq_8 B v l w h
    · exact appq_9 B v l w h
    · exact appq_10 B v l w h
    · exact appq_11 B v l w h
    · exact appq_12 B v l w h
    · exact appq_13 B v l w h
    · exact appq_14 B v l w h
    · exact appq_15 B v l w h
    · exact appq_16 B v l w h
    · exact appq_17 B v l w h
    · exact appq_18 B v l w h
    · exact appq_19 B v l w h
    · exact appq_20 B v l w h
    · exact appq_21 B v l w h
    · exact appq_22 B v l w h
    · exact appq_23 B v l w h
    · exact appq_24 B v l w h
    · exact appq_25 B v l w h
    · exact appq_26 B v l w h
    · exact appq_27 B v l w h
    · exact appq_28 B v l w h
    · exact appq_29 B v l w h
    · exact appq_30 B v l w h
    · exact appq_31 B v l w h
set_option maxRecDepth 100000 in
set_option maxHeartbeats 4000000 in
/-- Package utf's Quote. -/
theorem quote_any (s : ByteArray) (w : World) (hs : s.size ≤ 6000) : Calls Tryd.prog 44 #[.string s] w fun e w' => e = .returned (.string ⟨(quoted s.data.toList).toArray⟩) ∧ Fresh w w' := by
  obtain ⟨i0, hi, hz0, hz1, hz2⟩ := info_parts info5
  have hmk : (Instr.makeSlice 101 (.int .i64 0) (.int .i64 ((s.size : Int) + 2))).run Tryd.prog w = .ok (.slice (some ⟨w.heap.size, 0, none⟩) 0 (s.size + 2)) (w.alloc (.cells (madeCells #[.int .u8 0] (s.size + 2)) 5)) := by
    have := run_make (P := Tryd.prog) w 101 5 i0 (.int .u8 0) Tryd.underlying101 hi hz0 .i64 .i64 0 ((s.size : Int) + 2) (by omega) (by omega) (by rw [hz2]; omega) (by omega)
    rw [hz1, Nat.mul_one, show ((s.size : Int) + 2).toNat = s.size + 2 by omega] at this
    exact this
  have HM : Hid (Buf (w.alloc (.cells (madeCells #[.int .u8 0] (s.size + 2)) 5)) w.heap.size (.slice (some ⟨w.heap.size, 0, none⟩) 0 (s.size + 2)) []) :=
    World.ownsRow_made w _ (s.size + 2) (Nat.le_refl _) (by unfold maxLen; omega) (by rw [size_madeCells, Nat.mul_one])
  go_enter Tryd.func44, Tryd.ntmps44
  go_wp2_with (at_builtin; refine wpList_append_lies _ rfl _ _ 101 rfl w.heap.size 5 i0 (.int .u8 0) 1 1 Tryd.underlying101 hi hz0 hz1 hz2 rfl (by decide) (.slice (some ⟨w.heap.size, 0, none⟩) 0 (s.size + 2)) 0 (vals []) rfl (HM.out.alloc _) ⟨w.heap.size + 1, 0, none⟩ 1 1 (vals [34]) rfl rfl (by have := news_at (w.alloc (.cells (madeCells #[.int .u8 0] (s.size + 2)) 5)) #[.int .u8 34] [34] rfl; rw [World.size_alloc] at this; exact this) (vals_one _) (by decide) (by unfold maxLen; omega) (by omega) (by simp; omega) (w.heap.size + 1 + 1) (by simp) ?_; intro g cap w1 hown hgrow hat hlt; have HB1 := Lib.hid (show Buf w1 w.heap.size (.slice (some ⟨g, 0, none⟩) 1 cap) [34] from Buf.more (l := []) hown rfl); have HF1 := Lib.hid ((((Fresh.refl w).alloc _).alloc _).below (Below.grown (Below.refl w.heap.size _) hgrow (by simp; omega) (fun k e => by cases e; exact Nat.le_refl _)) (Nat.le_refl _)); clear hown hgrow hat hlt)
  clear hmk HM
  go_loopw [3, 13] (fun a3 a13 wr => ∃ g n cap k : Nat, k ≤ s.size ∧ a3 = .slice (some ⟨g, 0, none⟩) n cap ∧ a13 = .int .i64 k ∧ Hid (Buf wr w.heap.size (.slice (some ⟨g, 0, none⟩) n cap) (34 :: qL (s.data.toList.take k))) ∧ Hid (Fresh w wr)) (fun _ a13 _ => s.size - (intOf a13).toNat)
  case atStart => exact ⟨_, _, _, 0, Nat.zero_le _, rfl, rfl, HB1.out, HF1.out⟩
  case round =>
    obtain ⟨g, n, cap, k, hk, rfl, rfl, HB, HF⟩ := hrel
    clear HB1 HF1
    have HL : Hid ((34 :: qL (s.data.toList.take k)).length ≤ 60000) := by
      have h1 := qL_len (s.data.toList.take k)
      have h2 : (s.data.toList.take k).length ≤ k := List.length_take_le _ _
      rw [Hid, List.length_cons]; omega
    have HRD : Hid (Rd wr w.heap.size (.slice (some ⟨g, 0, none⟩) n cap) (34 :: qL (s.data.toList.take k))) := ⟨HB.out, HF.out.size, by have := HL.out; omega⟩
    by_cases hlt : k < s.size
    · have HT := Lib.hid (take_snoc s k hlt)
      go_wp2_with fail
      refine (appq_any _ w.heap.size _ _ _ HRD.out).mono ?_
      rintro e w2 ⟨g2, cap2, he, hb2, hf2⟩
      have hb3 : Buf w2 w.heap.size (.slice (some ⟨g2, 0, none⟩) ((34 :: qL (s.data.toList.take k)).length + (qB s[k]).length) cap2) (34 :: qL (s.data.toList.take (k + 1))) := by
        rw [HT.out, qL_snoc]; exact hb2
      clear hb2
      generalize (34 :: qL (s.data.toList.take k)).length + (qB s[k]).length = n2 at he hb3
      subst he
      have HB3 := Lib.hid hb3
      have HF3 := Lib.hid (HF.out.below hf2 (Nat.le_refl _))
      clear hb3 hf2
      go_wp2
      go_roundw
      case rel => exact ⟨g2, n2, cap2, k + 1, by omega, rfl, by go_num, HB3.out, HF3.out⟩
      case measure => simp [intOf]; omega
    · obtain rfl : k = s.size := by omega
      have HQ : Hid ((34 :: qL (s.data.toList.take s.size)) ++ [34] = quoted s.data.toList) := by
        rw [Hid, List.take_of_length_le (by simp), quoted]; rfl
      have hw1 := HF.out.size
      have HN : Hid (n = (34 :: qL (s.data.toList.take s.size)).length) := (Buf.text HB.out).1
      generalize 34 :: qL (s.data.toList.take s.size) = L at *
      obtain rfl : n = L.length := HN.out
      have hL := HL.out
      go_wp2_with (at_builtin; refine wpList_append_lies _ rfl _ _ 101 rfl w.heap.size 5 i0 (.int .u8 0) 1 1 Tryd.underlying101 hi hz0 hz1 hz2 rfl (by decide) (.slice (some ⟨g, 0, none⟩) L.length cap) L.length (vals L) rfl (HB.out.alloc _) ⟨wr.heap.size, 0, none⟩ 1 1 (vals [34]) rfl rfl (news_at wr _ _ rfl) (vals_one _) (by decide) (HRD.out.m1 (by decide)) (by omega) HRD.out.m3 (wr.heap.size + 1) (by simp) ?_; intro g2 cap2 w2 hown hgrow hat hlt2; have HB2 := Lib.hid (show Buf w2 w.heap.size (.slice (some ⟨g2, 0, none⟩) (L.length + 1) cap2) (L ++ [34]) from Buf.more hown rfl); have HF2 := Lib.hid ((HF.out.alloc _).below (Below.grown (Below.refl w.heap.size _) hgrow HRD.out.m3 (fun k e => (HB.out.lt k e).1)) (Nat.le_refl _)); clear hown hgrow hat hlt2; have hcv := (Buf.text HB2.out).2)
      go_ret
      exact ⟨ret_string (by rw [HQ.out]), HF2.out⟩
theorem hexB_lo (n : Nat) (h : n < 10) : ((hexB n).toNat : Int) = 48 + n := by
  unfold hexB
  rw [if_pos h, UInt8.toNat_ofNat']
  omega
theorem hexB_hi (n : Nat) (h : 10 ≤ n) (h2 : n < 16) : ((hexB n).toNat : Int) = 87 + n := by
  unfold hexB
  rw [if_neg (by omega), UInt8.toNat_ofNat']
  omega
end Go.Proofs.YtfhhmajkacjbgaaDoor
