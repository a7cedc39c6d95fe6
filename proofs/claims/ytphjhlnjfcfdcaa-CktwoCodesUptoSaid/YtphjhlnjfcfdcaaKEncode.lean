/-
  What package ckone's Encode returns.
-/
import Derived.Test.YtphjhlnjfcfdcaaKEnc
namespace Go.Proofs.Ytphjhlnjfcfdcaa
open Go.ChangeShapes Go.WideShapes Go.ChangeAt Go.RowKit
set_option maxRecDepth 100000

theorem wrap_u64' {r : Int} (h0 : 0 ≤ r) (h1 : r < 18446744073709551616) : IntKind.u64.wrap r = r := by
  simp [IntKind.wrap, IntKind.signed, IntKind.bits]; omega
set_option maxHeartbeats 2000000 in
theorem encode_bad (seq : Int) (a : Option Addr) (l : List P1) (c : Nat) (w : World) (h : RowAt w a (p1s l)) (hf : ∀ p ∈ l, p.Fit maxLen) (hb : chk1 l ≠ 0) :
    Calls Try.prog 13 #[st1 seq a l.length c] w fun e w' => e = .returned (.tuple #[.string ⟨#[]⟩, .int .i64 (chk1 l)]) ∧ Fresh w w' := by
  have HF0 := Lib.hid ((Fresh.refl w).alloc (.cells #[.int .u32 seq, .slice a l.length c] 25))
  have HC := Lib.hid (check_any seq a l c _ (h.move HF0.out) hf)
  dsimp only [st1] at *
  clear h hf
  generalize chk1 l = E at *
  have e0 : (E != 0) = true := by simpa using hb
  clear hb
  go_enter Try.func13, Try.ntmps13
  go_wp2_with (fail)
  refine HC.out.mono ?_
  rintro e w1 ⟨rfl, hf⟩
  have HF := Lib.hid (HF0.out.trans hf)
  clear hf
  go_wp2
  go_ret2
  exact ⟨rfl, HF.out⟩
set_option maxHeartbeats 4000000 in
theorem encode_ok (seq : Int) (a : Option Addr) (l : List P1) (c : Nat) (w : World) (h : RowAt w a (p1s l)) (hf : ∀ p ∈ l, p.Fit maxLen) (h0 : chk1 l = 0) (hs0 : 0 ≤ seq) (hs1 : seq ≤ 4294967295) :
    Calls Try.prog 13 #[st1 seq a l.length c] w fun e w' => e = .returned (.tuple #[.string (tx (enc1L seq l)), .int .i64 0]) ∧ Fresh w w' := by
  have hA := at_new w (.cells #[.int .u32 seq, .slice a l.length c] 25)
  have HF0 := Lib.hid ((Fresh.refl w).alloc (.cells #[.int .u32 seq, .slice a l.length c] 25))
  have hck := check_any seq a l c _ (h.move HF0.out) hf
  rw [h0] at hck
  have HC := Lib.hid hck
  obtain ⟨hlen, hfit⟩ := chk_fit h0 (fun p hp => ⟨(hf p hp).r0, (hf p hp).r1⟩)
  have HFT := Lib.hid hfit
  have HROW := Lib.hid (h.move HF0.out)
  have HENC : Hid (enc1L seq l = be 4 seq.toNat ++ (be 2 l.length ++ l.flatMap podL)) := rfl
  have HP4 := Lib.hid (fun W => put_yes 4 seq W (by decide) hs0 (by omega))
  have HP2 := Lib.hid (fun W => put_yes 2 (l.length : Int) W (by decide) (by omega) (by omega))
  have hw := wrap_u64' hs0 (by omega)
  have hw2 : IntKind.u64.wrap (l.length : Int) = (l.length : Int) := wrap_u64' (by omega) (by omega)
  have HA := Lib.hid hA
  rw [show (4 : Int).toNat = 4 from rfl] at HP4
  rw [show (2 : Int).toNat = 2 from rfl, Int.toNat_natCast] at HP2
  dsimp only [st1] at *
  clear h hf h0 hck hfit hA
  go_enter Try.func13, Try.ntmps13
  go_wp2_with (fail)
  refine HC.out.mono ?_
  rintro e w1 ⟨rfl, hf⟩
  obtain ⟨q0, q1, _⟩ := st1_box (hf.at HA.out)
  have HF1 := Lib.hid (HF0.out.trans hf)
  have HROW1 := Lib.hid (HROW.out.move hf)
  have HA1 := Lib.hid (hf.at HA.out)
  have hBL := bld_new w1
  have HF2 := Lib.hid ((Fresh.refl w1).alloc (.cells #[.pointer none, .slice none 0 0] 71))
  have HA2 := Lib.hid (at_alloc (p := .cells #[.pointer none, .slice none 0 0] 71) HA1.out)
  have HBL := Lib.hid hBL
  have hzl := lt_of_at HA1.out
  clear hf hBL HROW HA HC
  obtain ⟨z, hz⟩ : ∃ z, z = w.heap.size := ⟨_, rfl⟩
  rw [← hz] at q0 q1 HA1 HA2 hzl ⊢
  clear hz
  go_wp2_with (fail)
  refine (HP4.out _).mono ?_
  rintro e w2 ⟨rfl, hf2⟩
  have HW := Lib.hid (HF2.out.trans hf2)
  have HB := Lib.hid (HBL.out.fresh hf2)
  have HAk := Lib.hid (hf2.at HA2.out)
  clear hf2 HBL HF2 HA2 q0 q1 hzl
  obtain ⟨b, hb⟩ : ∃ b, b = w1.heap.size := ⟨_, rfl⟩
  have HBB := Lib.hid hb
  rw [← hb] at HB ⊢
  clear hb
  go_wp2_with (fail)
  refine (write_any b b [] (beS 4 seq.toNat) _ HB.out (by rw [beS_size]; simp) (by have := HW.out.size; rw [HBB.out]; exact this)).mono ?_
  rintro e w3 ⟨rfl, hb3, hf3⟩
  have HW := Lib.hid (HW.out.below hf3 (by rw [HBB.out]; exact Nat.le_refl _))
  have HB := Lib.hid hb3
  obtain ⟨q0, q1, _⟩ := st1_box (HW.out.at HA1.out)
  clear hf3 hb3
  go_wp2_with (fail)
  refine (HP2.out _).mono ?_
  rintro e w4 ⟨rfl, hf4⟩
  have HW := Lib.hid (HW.out.trans hf4)
  have HB := Lib.hid (HB.out.fresh hf4)
  clear hf4 q0 q1
  go_wp2_with (fail)
  refine (write_any b b _ (beS 2 l.length) _ HB.out (by rw [beS_size]; simp [beS, be_length]) (by have := HW.out.size; rw [HBB.out]; exact this)).mono ?_
  rintro e w5 ⟨rfl, hb5, hf5⟩
  have HW := Lib.hid (HW.out.below hf5 (by rw [HBB.out]; exact Nat.le_refl _))
  have HB : Hid (Bld b b (be 4 seq.toNat ++ (be 2 l.length ++ (l.take 0).flatMap podL)) w5) := by
    simpa [Hid, beS] using hb5
  obtain ⟨q0, q1, _⟩ := st1_box (HW.out.at HA1.out)
  clear hf5 hb5
  go_wp2
  clear q0 q1
  go_loopw [27] (fun a27 wr => ∃ (k : Nat), a27 = .int .i64 (k : Int) ∧ k ≤ l.length ∧ Hid (Bld b b (be 4 seq.toNat ++ (be 2 l.length ++ (l.take k).flatMap podL)) wr) ∧ Hid (Fresh w1 wr)) (fun a27 _ => l.length - (intOf a27).toNat)
  case atStart => exact ⟨0, rfl, Nat.zero_le _, HB.out, HW.out⟩
  case round =>
    obtain ⟨k, rfl, hk, HBk, HF⟩ := hrel
    by_cases hlt : k < l.length
    · obtain ⟨g, o1, rfl, hc⟩ := p1_form (HROW1.out.move HF.out) hlt
      obtain ⟨c0, c1, c2, c3⟩ := hc k hlt
      have HFI := Lib.hid (HFT.out _ (List.getElem_mem hlt))
      have HPB := Lib.hid (fun W => podB_any l[k] W (HFI.out.mono (by omega)))
      have HTK : Hid ((l.take (k + 1)).flatMap podL = (l.take k).flatMap podL ++ podL l[k]) := by
        rw [Hid, List.take_succ_eq_append_getElem hlt, List.flatMap_append]; simp
      have HLN : Hid ((be 4 seq.toNat ++ (be 2 l.length ++ (l.take k).flatMap podL)).length + (tx (podL l[k])).size ≤ 140737488355328) := by
        have h1 := flat_le podL 772 (l.take k) (fun p hp => podL_len (HFT.out p (List.mem_of_mem_take hp)))
        have h2 := podL_len HFI.out
        have h3 : (l.take k).length * 772 ≤ 1024 * 772 := Nat.mul_le_mul (by rw [List.length_take]; omega) (Nat.le_refl _)
        rw [Hid, tx_size]
        simp only [List.length_append, be_length]
        omega
      clear hc
      have HPL := Lib.hid (tx_toList (podL l[k]))
      generalize tx (podL l[k]) = PB at *
      generalize podL l[k] = PL at *
      generalize l[k] = p at *
      obtain ⟨file, name, image, r⟩ := p
      dsimp only [P1.val] at *
      have HF1 := Lib.hid ((Fresh.refl wr).alloc (.cells #[.string file, .string name, .string image, .int .u8 r] 66))
      go_wp2_with (fail)
      all_goals try (exfalso; omega)
      refine (HPB.out _).mono ?_
      rintro e w6 ⟨rfl, hf6⟩
      have HFq := Lib.hid (HF1.out.trans hf6)
      have HB6 := Lib.hid (HBk.out.fresh HFq.out)
      have HFr := Lib.hid (HF.out.trans HFq.out)
      clear hf6 HF1
      go_wp2_with (fail)
      refine (write_any b b _ PB _ HB6.out HLN.out (by have := HFr.out.size; rw [HBB.out]; exact this)).mono ?_
      rintro e w7 ⟨rfl, hb7, hf7⟩
      have HW7 := Lib.hid (HFr.out.below hf7 (by rw [HBB.out]; exact Nat.le_refl _))
      have HB7 : Hid (Bld b b (be 4 seq.toNat ++ (be 2 l.length ++ (l.take (k + 1)).flatMap podL)) w7) := by
        rw [Hid, HTK.out, ← List.append_assoc, ← List.append_assoc, ← HPL.out]
        simpa [List.append_assoc] using hb7
      clear hf7 hb7
      go_wp2
      go_roundw
      case rel => exact ⟨k + 1, by simp, by omega, HB7.out, HW7.out⟩
      case measure => simp [intOf]; omega
    · obtain rfl : k = l.length := by omega
      have HB9 : Hid (Bld b b (enc1L seq l) wr) := by
        have := HBk.out
        rw [List.take_length] at this
        rw [Hid, HENC.out]; exact this
      have HS := Lib.hid (str_any b b (enc1L seq l) wr HB9.out (by have := HF.out.size; rw [HBB.out]; exact this))
      go_wp2_with (fail)
      all_goals try (exfalso; omega)
      refine HS.out.mono ?_
      rintro e w8 ⟨rfl, hf8⟩
      have HF9 := Lib.hid ((HF1.out.trans HF.out).below hf8 (by rw [HBB.out]; exact HF1.out.size))
      clear hf8
      go_wp2
      go_ret2
      exact ⟨rfl, HF9.out⟩
end Go.Proofs.Ytphjhlnjfcfdcaa
