/-
  The document's Quote.
-/
import Derived.Test.YtajmhllldocpjaaDoorQuote2
namespace Go.Proofs.YtajmhllldocpjaaDoor
open Go.ChangeShapes Go.WideShapes Go.ChangeAt Go.RowKit
attribute [local go_sem ↓] Go.wp_at_zero Go.wp_at_succ
variable {w : World}

theorem hexB_lo (n : Nat) (h : n < 10) : ((hexB n).toNat : Int) = 48 + n := by
  unfold hexB
  rw [if_pos h, UInt8.toNat_ofNat']
  omega
theorem hexB_hi (n : Nat) (h : 10 ≤ n) (h2 : n < 16) : ((hexB n).toNat : Int) = 87 + n := by
  unfold hexB
  rw [if_neg (by omega), UInt8.toNat_ofNat']
  omega
theorem hexR_any (x : Int) (n : Nat) (w : World) (h : x = n) (hn : n < 16) : Calls Tryd.prog 30 #[.int .i64 x] w fun e w' => e = .returned (.int .u8 ((hexB n).toNat : Int)) ∧ w = w' := by
  by_cases hc : n < 10
  · have HE := Lib.hid (hexB_lo n hc)
    have h1 : x < 10 := by omega
    have h0 : 0 ≤ x := by omega
    have HX := Lib.hid h
    clear h hc
    go_enter Tryd.func30, Tryd.ntmps30
    go_wp2
    go_ret
    exact ⟨ret_int (by rw [HE.out, HX.out]), rfl⟩
  · have HE := Lib.hid (hexB_hi n (by omega) hn)
    have h1 : ¬ x < 10 := by omega
    have h0 : 0 ≤ x := by omega
    have h2 : x ≤ 15 := by omega
    have HX := Lib.hid h
    clear h hc
    go_enter Tryd.func30, Tryd.ntmps30
    go_wp2
    go_ret
    exact ⟨ret_int (by rw [HE.out, HX.out]), rfl⟩
set_option maxRecDepth 100000 in
set_option maxHeartbeats 8000000 in
theorem rquote_any (s : ByteArray) (w : World) (hs : s.size ≤ 6000) : Calls Tryd.prog 20 #[.string s] w fun e w' => e = .returned (.string ⟨(quoted s.data.toList).toArray⟩) ∧ Fresh w w' := by
  obtain ⟨i0, hi, hz0, hz1, hz2⟩ := info_parts info5
  have HB0 : Hid (Buf (w.alloc (.cells #[.int .u8 34] 5)) w.heap.size (.slice (some ⟨w.heap.size, 0, none⟩) 1 1) [34]) :=
    ⟨rfl, .inr ⟨w.heap.size, 1, #[.int .u8 34], rfl, Nat.le_refl _, at_new w _, Nat.le_refl _, by unfold maxLen; omega, rfl, rfl⟩⟩
  have HF0 := Lib.hid ((Fresh.refl w).alloc (.cells #[.int .u8 34] 5))
  go_enter Tryd.func20, Tryd.ntmps20
  go_wp2
  go_loopw [3, 4] (fun a3 a4 wr => ∃ g n cap k : Nat, k ≤ s.size ∧ a3 = .slice (some ⟨g, 0, none⟩) n cap ∧ a4 = .int .i64 k ∧ Hid (Buf wr w.heap.size (.slice (some ⟨g, 0, none⟩) n cap) (34 :: qL (s.data.toList.take k))) ∧ Hid (Fresh w wr)) (fun _ a4 _ => s.size - (intOf a4).toNat)
  case atStart => exact ⟨_, _, _, 0, Nat.zero_le _, rfl, rfl, HB0.out, HF0.out⟩
  case round =>
    obtain ⟨g, n, cap, k, hk, rfl, rfl, HB, HF⟩ := hrel
    clear HB0 HF0
    have HL : Hid ((34 :: qL (s.data.toList.take k)).length ≤ 60000) := by
      have h1 := qL_len (s.data.toList.take k)
      have h2 : (s.data.toList.take k).length ≤ k := List.length_take_le _ _
      rw [Hid, List.length_cons]; omega
    have HRD : Hid (Rd wr w.heap.size (.slice (some ⟨g, 0, none⟩) n cap) (34 :: qL (s.data.toList.take k))) := ⟨HB.out, HF.out.size, by have := HL.out; omega⟩
    have HN : Hid (n = (34 :: qL (s.data.toList.take k)).length) := (Buf.text HB.out).1
    by_cases hlt : k < s.size
    · have HT : Hid (34 :: qL (s.data.toList.take (k + 1)) = (34 :: qL (s.data.toList.take k)) ++ qB s[k]) := by rw [Hid, take_snoc s k hlt, qL_snoc]; rfl
      generalize 34 :: qL (s.data.toList.take k) = L at *
      obtain rfl : n = L.length := HN.out
      obtain ⟨c, hc⟩ : ∃ c, s[k] = c := ⟨_, rfl⟩
      have HC := Lib.hid hc
      rw [hc] at HT
      have HIX : (s[k].toNat : Int) = (c.toNat : Int) := by rw [hc]
      clear hc HN HC
      by_cases h34 : c.toNat = 34
      · obtain rfl := c_of h34
        have HIX2 : (s[k].toNat : Int) = 34 := HIX
        clear HIX
        have HQ : Hid (qB (UInt8.ofNat 34) = [92, 34]) := by rw [Hid]; decide
        go_wp2_with (first
          | (at_builtin; refine wpList_append_lies _ rfl _ _ 57 rfl w.heap.size 5 i0 (.int .u8 0) 1 1 Tryd.underlying57 hi hz0 hz1 hz2 rfl (by decide) (.slice (some ⟨g, 0, none⟩) L.length cap) L.length (vals L) rfl (HB.out.alloc _) ⟨wr.heap.size, 0, none⟩ 2 2 (vals [92, 34]) rfl rfl (news_at wr _ _ rfl) (vals_one _) (by decide) (HRD.out.m1 (by decide)) (HRD.out.m2 (by decide)) HRD.out.m3 (wr.heap.size + 1) (by simp) ?_; intro g2 cap2 w2 hown hgrow hat hlt2; have HB2 := Lib.hid (show Buf w2 w.heap.size (.slice (some ⟨g2, 0, none⟩) (L.length + 2) cap2) (L ++ [92, 34]) from Buf.more hown rfl); have HF2 := Lib.hid ((HF.out.alloc _).below (Below.grown (Below.refl w.heap.size _) hgrow HRD.out.m3 (fun k e => (HB.out.lt k e).1)) (Nat.le_refl _)); clear hown hgrow hat hlt2))
        go_roundw
        case rel => exact ⟨g2, _, cap2, k + 1, by omega, rfl, by go_num, by rw [Hid, HT.out, HQ.out]; exact HB2.out, HF2.out⟩
        case measure => simp [intOf]; omega
      by_cases h92 : c.toNat = 92
      · obtain rfl := c_of h92
        have HIX2 : (s[k].toNat : Int) = 92 := HIX
        clear HIX
        have HQ : Hid (qB (UInt8.ofNat 92) = [92, 92]) := by rw [Hid]; decide
        go_wp2_with (first
          | (at_builtin; refine wpList_append_lies _ rfl _ _ 57 rfl w.heap.size 5 i0 (.int .u8 0) 1 1 Tryd.underlying57 hi hz0 hz1 hz2 rfl (by decide) (.slice (some ⟨g, 0, none⟩) L.length cap) L.length (vals L) rfl (HB.out.alloc _) ⟨wr.heap.size, 0, none⟩ 2 2 (vals [92, 92]) rfl rfl (news_at wr _ _ rfl) (vals_one _) (by decide) (HRD.out.m1 (by decide)) (HRD.out.m2 (by decide)) HRD.out.m3 (wr.heap.size + 1) (by simp) ?_; intro g2 cap2 w2 hown hgrow hat hlt2; have HB2 := Lib.hid (show Buf w2 w.heap.size (.slice (some ⟨g2, 0, none⟩) (L.length + 2) cap2) (L ++ [92, 92]) from Buf.more hown rfl); have HF2 := Lib.hid ((HF.out.alloc _).below (Below.grown (Below.refl w.heap.size _) hgrow HRD.out.m3 (fun k e => (HB.out.lt k e).1)) (Nat.le_refl _)); clear hown hgrow hat hlt2))
        go_roundw
        case rel => exact ⟨g2, _, cap2, k + 1, by omega, rfl, by go_num, by rw [Hid, HT.out, HQ.out]; exact HB2.out, HF2.out⟩
        case measure => simp [intOf]; omega
      by_cases h10 : c.toNat = 10
      · obtain rfl := c_of h10
        have HIX2 : (s[k].toNat : Int) = 10 := HIX
        clear HIX
        have HQ : Hid (qB (UInt8.ofNat 10) = [92, 110]) := by rw [Hid]; decide
        go_wp2_with (first
          | (at_builtin; refine wpList_append_lies _ rfl _ _ 57 rfl w.heap.size 5 i0 (.int .u8 0) 1 1 Tryd.underlying57 hi hz0 hz1 hz2 rfl (by decide) (.slice (some ⟨g, 0, none⟩) L.length cap) L.length (vals L) rfl (HB.out.alloc _) ⟨wr.heap.size, 0, none⟩ 2 2 (vals [92, 110]) rfl rfl (news_at wr _ _ rfl) (vals_one _) (by decide) (HRD.out.m1 (by decide)) (HRD.out.m2 (by decide)) HRD.out.m3 (wr.heap.size + 1) (by simp) ?_; intro g2 cap2 w2 hown hgrow hat hlt2; have HB2 := Lib.hid (show Buf w2 w.heap.size (.slice (some ⟨g2, 0, none⟩) (L.length + 2) cap2) (L ++ [92, 110]) from Buf.more hown rfl); have HF2 := Lib.hid ((HF.out.alloc _).below (Below.grown (Below.refl w.heap.size _) hgrow HRD.out.m3 (fun k e => (HB.out.lt k e).1)) (Nat.le_refl _)); clear hown hgrow hat hlt2))
        go_roundw
        case rel => exact ⟨g2, _, cap2, k + 1, by omega, rfl, by go_num, by rw [Hid, HT.out, HQ.out]; exact HB2.out, HF2.out⟩
        case measure => simp [intOf]; omega
      by_cases h13 : c.toNat = 13
      · obtain rfl := c_of h13
        have HIX2 : (s[k].toNat : Int) = 13 := HIX
        clear HIX
        have HQ : Hid (qB (UInt8.ofNat 13) = [92, 114]) := by rw [Hid]; decide
        go_wp2_with (first
          | (at_builtin; refine wpList_append_lies _ rfl _ _ 57 rfl w.heap.size 5 i0 (.int .u8 0) 1 1 Tryd.underlying57 hi hz0 hz1 hz2 rfl (by decide) (.slice (some ⟨g, 0, none⟩) L.length cap) L.length (vals L) rfl (HB.out.alloc _) ⟨wr.heap.size, 0, none⟩ 2 2 (vals [92, 114]) rfl rfl (news_at wr _ _ rfl) (vals_one _) (by decide) (HRD.out.m1 (by decide)) (HRD.out.m2 (by decide)) HRD.out.m3 (wr.heap.size + 1) (by simp) ?_; intro g2 cap2 w2 hown hgrow hat hlt2; have HB2 := Lib.hid (show Buf w2 w.heap.size (.slice (some ⟨g2, 0, none⟩) (L.length + 2) cap2) (L ++ [92, 114]) from Buf.more hown rfl); have HF2 := Lib.hid ((HF.out.alloc _).below (Below.grown (Below.refl w.heap.size _) hgrow HRD.out.m3 (fun k e => (HB.out.lt k e).1)) (Nat.le_refl _)); clear hown hgrow hat hlt2))
        go_roundw
        case rel => exact ⟨g2, _, cap2, k + 1, by omega, rfl, by go_num, by rw [Hid, HT.out, HQ.out]; exact HB2.out, HF2.out⟩
        case measure => simp [intOf]; omega
      by_cases h9 : c.toNat = 9
      · obtain rfl := c_of h9
        have HIX2 : (s[k].toNat : Int) = 9 := HIX
        clear HIX
        have HQ : Hid (qB (UInt8.ofNat 9) = [92, 116]) := by rw [Hid]; decide
        go_wp2_with (first
          | (at_builtin; refine wpList_append_lies _ rfl _ _ 57 rfl w.heap.size 5 i0 (.int .u8 0) 1 1 Tryd.underlying57 hi hz0 hz1 hz2 rfl (by decide) (.slice (some ⟨g, 0, none⟩) L.length cap) L.length (vals L) rfl (HB.out.alloc _) ⟨wr.heap.size, 0, none⟩ 2 2 (vals [92, 116]) rfl rfl (news_at wr _ _ rfl) (vals_one _) (by decide) (HRD.out.m1 (by decide)) (HRD.out.m2 (by decide)) HRD.out.m3 (wr.heap.size + 1) (by simp) ?_; intro g2 cap2 w2 hown hgrow hat hlt2; have HB2 := Lib.hid (show Buf w2 w.heap.size (.slice (some ⟨g2, 0, none⟩) (L.length + 2) cap2) (L ++ [92, 116]) from Buf.more hown rfl); have HF2 := Lib.hid ((HF.out.alloc _).below (Below.grown (Below.refl w.heap.size _) hgrow HRD.out.m3 (fun k e => (HB.out.lt k e).1)) (Nat.le_refl _)); clear hown hgrow hat hlt2))
        go_roundw
        case rel => exact ⟨g2, _, cap2, k + 1, by omega, rfl, by go_num, by rw [Hid, HT.out, HQ.out]; exact HB2.out, HF2.out⟩
        case measure => simp [intOf]; omega
      by_cases h8 : c.toNat = 8
      · obtain rfl := c_of h8
        have HIX2 : (s[k].toNat : Int) = 8 := HIX
        clear HIX
        have HQ : Hid (qB (UInt8.ofNat 8) = [92, 98]) := by rw [Hid]; decide
        go_wp2_with (first
          | (at_builtin; refine wpList_append_lies _ rfl _ _ 57 rfl w.heap.size 5 i0 (.int .u8 0) 1 1 Tryd.underlying57 hi hz0 hz1 hz2 rfl (by decide) (.slice (some ⟨g, 0, none⟩) L.length cap) L.length (vals L) rfl (HB.out.alloc _) ⟨wr.heap.size, 0, none⟩ 2 2 (vals [92, 98]) rfl rfl (news_at wr _ _ rfl) (vals_one _) (by decide) (HRD.out.m1 (by decide)) (HRD.out.m2 (by decide)) HRD.out.m3 (wr.heap.size + 1) (by simp) ?_; intro g2 cap2 w2 hown hgrow hat hlt2; have HB2 := Lib.hid (show Buf w2 w.heap.size (.slice (some ⟨g2, 0, none⟩) (L.length + 2) cap2) (L ++ [92, 98]) from Buf.more hown rfl); have HF2 := Lib.hid ((HF.out.alloc _).below (Below.grown (Below.refl w.heap.size _) hgrow HRD.out.m3 (fun k e => (HB.out.lt k e).1)) (Nat.le_refl _)); clear hown hgrow hat hlt2))
        go_roundw
        case rel => exact ⟨g2, _, cap2, k + 1, by omega, rfl, by go_num, by rw [Hid, HT.out, HQ.out]; exact HB2.out, HF2.out⟩
        case measure => simp [intOf]; omega
      by_cases h12 : c.toNat = 12
      · obtain rfl := c_of h12
        have HIX2 : (s[k].toNat : Int) = 12 := HIX
        clear HIX
        have HQ : Hid (qB (UInt8.ofNat 12) = [92, 102]) := by rw [Hid]; decide
        go_wp2_with (first
          | (at_builtin; refine wpList_append_lies _ rfl _ _ 57 rfl w.heap.size 5 i0 (.int .u8 0) 1 1 Tryd.underlying57 hi hz0 hz1 hz2 rfl (by decide) (.slice (some ⟨g, 0, none⟩) L.length cap) L.length (vals L) rfl (HB.out.alloc _) ⟨wr.heap.size, 0, none⟩ 2 2 (vals [92, 102]) rfl rfl (news_at wr _ _ rfl) (vals_one _) (by decide) (HRD.out.m1 (by decide)) (HRD.out.m2 (by decide)) HRD.out.m3 (wr.heap.size + 1) (by simp) ?_; intro g2 cap2 w2 hown hgrow hat hlt2; have HB2 := Lib.hid (show Buf w2 w.heap.size (.slice (some ⟨g2, 0, none⟩) (L.length + 2) cap2) (L ++ [92, 102]) from Buf.more hown rfl); have HF2 := Lib.hid ((HF.out.alloc _).below (Below.grown (Below.refl w.heap.size _) hgrow HRD.out.m3 (fun k e => (HB.out.lt k e).1)) (Nat.le_refl _)); clear hown hgrow hat hlt2))
        go_roundw
        case rel => exact ⟨g2, _, cap2, k + 1, by omega, rfl, by go_num, by rw [Hid, HT.out, HQ.out]; exact HB2.out, HF2.out⟩
        case measure => simp [intOf]; omega
      have e34 : ((c.toNat : Int) == 34) = false := by rw [beq_eq_false_iff_ne]; omega
      have e92 : ((c.toNat : Int) == 92) = false := by rw [beq_eq_false_iff_ne]; omega
      have e10 : ((c.toNat : Int) == 10) = false := by rw [beq_eq_false_iff_ne]; omega
      have e13 : ((c.toNat : Int) == 13) = false := by rw [beq_eq_false_iff_ne]; omega
      have e9 : ((c.toNat : Int) == 9) = false := by rw [beq_eq_false_iff_ne]; omega
      have e8 : ((c.toNat : Int) == 8) = false := by rw [beq_eq_false_iff_ne]; omega
      have e12 : ((c.toNat : Int) == 12) = false := by rw [beq_eq_false_iff_ne]; omega
      have hub : (c.toNat : Int) ≤ 255 := by have := c.toNat_lt; omega
      have ne : ∀ n : Nat, c.toNat ≠ n → n < 256 → ¬ c = UInt8.ofNat n := fun n h hn e => h (by rw [e, UInt8.toNat_ofNat']; omega)
      by_cases h32 : c.toNat < 32
      · have e32 : (c.toNat : Int) < 32 := by omega
        have HX1 : Hid ((c.toNat : Int) / 16 = ((c.toNat / 16 : Nat) : Int)) := by rw [Hid]; omega
        have HX2 : Hid ((c.toNat : Int) % 16 = ((c.toNat % 16 : Nat) : Int)) := by rw [Hid]; omega
        have HQ : Hid (qB c = [92, 117, 48, 48, hexB (c.toNat / 16), hexB (c.toNat % 16)]) := by rw [Hid, qB, if_neg (by rintro (h | h); exact ne 34 h34 (by omega) h; exact ne 92 h92 (by omega) h), if_neg (show ¬ c = 10 from ne 10 h10 (by omega)), if_neg (show ¬ c = 13 from ne 13 h13 (by omega)), if_neg (show ¬ c = 9 from ne 9 h9 (by omega)), if_neg (show ¬ c = 8 from ne 8 h8 (by omega)), if_neg (show ¬ c = 12 from ne 12 h12 (by omega)), if_pos h32]
        clear ne h34 h92 h10 h13 h9 h8 h12
        go_wp2_with fail
        refine (hexR_any _ (c.toNat / 16) _ HX1.out (by omega)).mono ?_
        rintro e w' ⟨rfl, rfl⟩
        go_wp2_with fail
        refine (hexR_any _ (c.toNat % 16) _ HX2.out (by omega)).mono ?_
        rintro e w' ⟨rfl, rfl⟩
        go_wp2_with (first
          | (at_builtin; refine wpList_append_lies _ rfl _ _ 57 rfl w.heap.size 5 i0 (.int .u8 0) 1 1 Tryd.underlying57 hi hz0 hz1 hz2 rfl (by decide) (.slice (some ⟨g, 0, none⟩) L.length cap) L.length (vals L) rfl (HB.out.alloc _) ⟨wr.heap.size, 0, none⟩ 6 6 (vals [92, 117, 48, 48, hexB (c.toNat / 16), hexB (c.toNat % 16)]) rfl rfl (news_at wr _ _ rfl) (vals_one _) (by decide) (HRD.out.m1 (by decide)) (HRD.out.m2 (by decide)) HRD.out.m3 (wr.heap.size + 1) (by simp) ?_; intro g2 cap2 w2 hown hgrow hat hlt2; have HB2 := Lib.hid (show Buf w2 w.heap.size (.slice (some ⟨g2, 0, none⟩) (L.length + 6) cap2) (L ++ [92, 117, 48, 48, hexB (c.toNat / 16), hexB (c.toNat % 16)]) from Buf.more hown rfl); have HF2 := Lib.hid ((HF.out.alloc _).below (Below.grown (Below.refl w.heap.size _) hgrow HRD.out.m3 (fun k e => (HB.out.lt k e).1)) (Nat.le_refl _)); clear hown hgrow hat hlt2))
        go_roundw
        case rel => exact ⟨g2, _, cap2, k + 1, by omega, rfl, by go_num, by rw [Hid, HT.out, HQ.out]; exact HB2.out, HF2.out⟩
        case measure => simp [intOf]; omega
      · have e32 : ¬ (c.toNat : Int) < 32 := by omega
        have HQ : Hid (qB c = [c]) := by rw [Hid, qB, if_neg (by rintro (h | h); exact ne 34 h34 (by omega) h; exact ne 92 h92 (by omega) h), if_neg (show ¬ c = 10 from ne 10 h10 (by omega)), if_neg (show ¬ c = 13 from ne 13 h13 (by omega)), if_neg (show ¬ c = 9 from ne 9 h9 (by omega)), if_neg (show ¬ c = 8 from ne 8 h8 (by omega)), if_neg (show ¬ c = 12 from ne 12 h12 (by omega)), if_neg h32]
        clear ne h34 h92 h10 h13 h9 h8 h12 h32
        go_wp2_with (first
          | (at_builtin; refine wpList_append_lies _ rfl _ _ 57 rfl w.heap.size 5 i0 (.int .u8 0) 1 1 Tryd.underlying57 hi hz0 hz1 hz2 rfl (by decide) (.slice (some ⟨g, 0, none⟩) L.length cap) L.length (vals L) rfl (HB.out.alloc _) ⟨wr.heap.size, 0, none⟩ 1 1 (vals [c]) rfl rfl (news_at wr _ _ rfl) (vals_one _) (by decide) (HRD.out.m1 (by decide)) (HRD.out.m2 (by decide)) HRD.out.m3 (wr.heap.size + 1) (by simp) ?_; intro g2 cap2 w2 hown hgrow hat hlt2; have HB2 := Lib.hid (show Buf w2 w.heap.size (.slice (some ⟨g2, 0, none⟩) (L.length + 1) cap2) (L ++ [c]) from Buf.more hown rfl); have HF2 := Lib.hid ((HF.out.alloc _).below (Below.grown (Below.refl w.heap.size _) hgrow HRD.out.m3 (fun k e => (HB.out.lt k e).1)) (Nat.le_refl _)); clear hown hgrow hat hlt2))
        go_roundw
        case rel => exact ⟨g2, _, cap2, k + 1, by omega, rfl, by go_num, by rw [Hid, HT.out, HQ.out]; exact HB2.out, HF2.out⟩
        case measure => simp [intOf]; omega
    · obtain rfl : k = s.size := by omega
      have HQ : Hid ((34 :: qL (s.data.toList.take s.size)) ++ [34] = quoted s.data.toList) := by
        rw [Hid, List.take_of_length_le (by simp), quoted]; rfl
      have hw1 := HF.out.size
      generalize 34 :: qL (s.data.toList.take s.size) = L at *
      obtain rfl : n = L.length := HN.out
      have hL := HL.out
      clear HN
      go_wp2_with (at_builtin; refine wpList_append_lies _ rfl _ _ 57 rfl w.heap.size 5 i0 (.int .u8 0) 1 1 Tryd.underlying57 hi hz0 hz1 hz2 rfl (by decide) (.slice (some ⟨g, 0, none⟩) L.length cap) L.length (vals L) rfl (HB.out.alloc _) ⟨wr.heap.size, 0, none⟩ 1 1 (vals [34]) rfl rfl (news_at wr _ _ rfl) (vals_one _) (by decide) (HRD.out.m1 (by decide)) (by omega) HRD.out.m3 (wr.heap.size + 1) (by simp) ?_; intro g2 cap2 w2 hown hgrow hat hlt2; have HB2 := Lib.hid (show Buf w2 w.heap.size (.slice (some ⟨g2, 0, none⟩) (L.length + 1) cap2) (L ++ [34]) from Buf.more hown rfl); have HF2 := Lib.hid ((HF.out.alloc _).below (Below.grown (Below.refl w.heap.size _) hgrow HRD.out.m3 (fun k e => (HB.out.lt k e).1)) (Nat.le_refl _)); clear hown hgrow hat hlt2; have hcv := (Buf.text HB2.out).2)
      go_ret
      exact ⟨ret_string (by rw [HQ.out]), HF2.out⟩
end Go.Proofs.YtajmhllldocpjaaDoor
