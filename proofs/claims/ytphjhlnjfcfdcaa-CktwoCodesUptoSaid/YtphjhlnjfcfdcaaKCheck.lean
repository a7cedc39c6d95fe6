/-
  What is wrong with a state of version 1, by package ckone.
-/
import Derived.Test.YtphjhlnjfcfdcaaKBase
import Derived.Test.YtphjhlnjfcfdcaaDName
import Derived.Test.YtphjhlnjfcfdcaaSVar
namespace Go.Proofs.Ytphjhlnjfcfdcaa
open Go.ChangeShapes Go.WideShapes Go.ChangeAt Go.RowKit
set_option maxRecDepth 100000

theorem name_tx (s : ByteArray) (w : World) (hs : s.size ≤ maxLen) : Calls Try.prog 63 #[.string s] w fun e w' => e = .returned (.bool (nameB s.data.toList)) ∧ Fresh w w' := by
  have := name_any s.data.toList w (by rw [← Lib.size_eq]; exact hs)
  rwa [tx_of] at this
set_option maxHeartbeats 2000000 in
theorem fault_any (p : P1) (ahead : ByteArray) (w : World) (hp : p.Fit maxLen) :
    Calls Try.prog 41 #[p.val, .string ahead] w fun e w' => e = .returned (.int .i64 (fE p ahead)) ∧ Fresh w w' := by
  obtain ⟨file, name, image, r⟩ := p
  have HFI := Lib.hid (fun W => file_any file W hp.file)
  have HNM := Lib.hid (fun W => name_tx name W hp.name)
  have HIM := Lib.hid (fun W => image_any image W hp.image)
  have HE : Hid (fE ⟨file, name, image, r⟩ ahead = if fileB file = true ∧ nameB name.data.toList = true then (if imgB image.data.toList = true ∧ leS file ahead = false then (if 2 < r then 7 else 0) else 6) else 13) := rfl
  have HLE : Hid (leS file ahead = (Op.bytesLess file.toList ahead.toList || file.toList == ahead.toList)) := rfl
  have hr0 : 0 ≤ r := hp.r0
  have hr1 : r ≤ 255 := hp.r1
  have HA := Lib.hid (at_new w (.cells #[.string file, .string name, .string image, .int .u8 r] 66))
  have HF0 := Lib.hid ((Fresh.refl w).alloc (.cells #[.string file, .string name, .string image, .int .u8 r] 66))
  dsimp only [P1.val]
  clear hp
  generalize fE ⟨file, name, image, r⟩ ahead = E at *
  generalize leS file ahead = L at *
  generalize hx1 : Op.bytesLess file.toList ahead.toList = x1 at *
  generalize hx2 : (file.toList == ahead.toList) = x2 at *
  cases hf : fileB file with
  | false =>
    rw [hf] at HFI
    have HR : Hid (E = 13) := by rw [Hid, HE.out, if_neg (by rw [hf]; simp)]
    clear HE hf hx1 hx2
    go_enter Try.func41, Try.ntmps41
    go_wp2_with (fail)
    refine (HFI.out _).mono ?_
    rintro e w1 ⟨rfl, rfl⟩
    go_wp2
    go_ret
    exact ⟨ret_int HR.out.symm, HF0.out⟩
  | true =>
    rw [hf] at HFI
    cases hn : nameB name.data.toList with
    | false =>
      rw [hn] at HNM
      have HR : Hid (E = 13) := by rw [Hid, HE.out, if_neg (by rw [hn]; simp)]
      clear HE hf hn hx1 hx2
      go_enter Try.func41, Try.ntmps41
      go_wp2_with (fail)
      refine (HFI.out _).mono ?_
      rintro e w1 ⟨rfl, rfl⟩
      go_wp2_with (fail)
      refine (HNM.out _).mono ?_
      rintro e w1 ⟨rfl, hf⟩
      have HF := Lib.hid (HF0.out.trans hf)
      clear hf
      go_wp2
      go_ret
      exact ⟨ret_int HR.out.symm, HF.out⟩
    | true =>
      rw [hn] at HNM
      have HE2 : Hid (E = if imgB image.data.toList = true ∧ L = false then (if 2 < r then 7 else 0) else 6) := by rw [Hid, HE.out, if_pos ⟨hf, hn⟩]
      clear HE hf hn
      go_enter Try.func41, Try.ntmps41
      go_wp2_with (fail)
      refine (HFI.out _).mono ?_
      rintro e w1 ⟨rfl, rfl⟩
      go_wp2_with (fail)
      refine (HNM.out _).mono ?_
      rintro e w1 ⟨rfl, hf⟩
      obtain ⟨⟨q0, q1, q2, q3⟩, _⟩ := p1_box (p := ⟨file, name, image, r⟩) (hf.at HA.out)
      have HF := Lib.hid (HF0.out.trans hf)
      clear hf HA HF0
      obtain ⟨b, hb⟩ : ∃ b, b = w.heap.size := ⟨_, rfl⟩
      rw [← hb] at q0 q1 q2 q3 ⊢
      clear hb
      go_wp2_with (fail)
      refine (HIM.out _).mono ?_
      rintro e w2 ⟨rfl, rfl⟩
      cases hi : imgB image.data.toList with
      | false =>
        have HR : Hid (E = 6) := by rw [Hid, HE2.out, if_neg (by rw [hi]; simp)]
        clear HE2 hi
        go_wp2
        go_ret
        exact ⟨ret_int HR.out.symm, HF.out⟩
      | true =>
        have HE3 : Hid (E = if L = false then (if 2 < r then 7 else 0) else 6) := by rw [Hid, HE2.out]; simp only [hi, true_and]
        clear HE2 hi
        cases hl : (x1 || x2) with
        | true =>
          have HR : Hid (E = 6) := by rw [Hid, HE3.out, HLE.out, hl]; simp
          clear HE3 HLE
          cases x1 <;> cases x2 <;> simp at hl <;> (go_wp2; go_ret; exact ⟨ret_int HR.out.symm, HF.out⟩)
        | false =>
          have HE4 : Hid (E = if 2 < r then 7 else 0) := by rw [Hid, HE3.out, HLE.out, hl]; simp
          clear HE3 HLE
          simp only [Bool.or_eq_false_iff] at hl
          obtain ⟨rfl, rfl⟩ := hl
          by_cases h2 : 2 < r
          · have HR : Hid (E = 7) := by rw [Hid, HE4.out, if_pos h2]
            clear HE4
            go_wp2
            go_ret
            exact ⟨ret_int HR.out.symm, HF.out⟩
          · have HR : Hid (E = 0) := by rw [Hid, HE4.out, if_neg h2]
            clear HE4
            go_wp2
            go_ret
            exact ⟨ret_int HR.out.symm, HF.out⟩
set_option maxHeartbeats 2000000 in
theorem check_any (seq : Int) (a : Option Addr) (l : List P1) (c : Nat) (w : World) (h : RowAt w a (p1s l)) (hf : ∀ p ∈ l, p.Fit maxLen) :
    Calls Try.prog 14 #[st1 seq a l.length c] w fun e w' => e = .returned (.int .i64 (chk1 l)) ∧ Fresh w w' := by
  have HROW := Lib.hid h
  have HFT := Lib.hid hf
  have HC : Hid (chk1 l = if 1024 < l.length then 18 else chkF (aheadOf l 0) (l.drop 0)) := rfl
  have HA := Lib.hid (at_new w (.cells #[.int .u32 seq, .slice a l.length c] 25))
  have HF0 := Lib.hid ((Fresh.refl w).alloc (.cells #[.int .u32 seq, .slice a l.length c] 25))
  dsimp only [st1]
  clear h hf
  generalize chk1 l = E at *
  by_cases hm : 1024 < l.length
  · have HR : Hid (E = 18) := by rw [Hid, HC.out, if_pos hm]
    clear HC
    go_enter Try.func14, Try.ntmps14
    go_wp2
    all_goals try (exfalso; omega)
    go_ret
    exact ⟨ret_int HR.out.symm, HF0.out⟩
  · have HC2 : Hid (E = chkF (aheadOf l 0) (l.drop 0)) := by rw [Hid, HC.out, if_neg hm]
    clear HC
    go_enter Try.func14, Try.ntmps14
    go_wp2
    all_goals try (exfalso; omega)
    generalize w.alloc (.cells #[.int .u32 seq, .slice a l.length c] 25) = W0 at *
    go_loopw [3, 14] (fun a3 a14 wr => ∃ (k : Nat), a14 = .int .i64 (k : Int) ∧ a3 = .string (aheadOf l k) ∧ k ≤ l.length ∧ Hid (E = chkF (aheadOf l k) (l.drop k)) ∧ Hid (Fresh W0 wr)) (fun _ a14 _ => l.length - (intOf a14).toNat)
    case atStart => exact ⟨0, rfl, rfl, Nat.zero_le _, HC2.out, Fresh.refl _⟩
    case round =>
      obtain ⟨k, rfl, rfl, hk, HE, HF⟩ := hrel
      by_cases hlt : k < l.length
      · obtain ⟨g, o1, rfl, hc⟩ := p1_form ((HROW.out.move HF0.out).move HF.out) hlt
        obtain ⟨c0, c1, c2, c3⟩ := hc k hlt
        have HFA := Lib.hid (fun W => fault_any l[k] (aheadOf l k) W (HFT.out _ (List.getElem_mem hlt)))
        have HSTEP : Hid (E = if fE l[k] (aheadOf l k) = 0 then chkF l[k].file (l.drop (k + 1)) else fE l[k] (aheadOf l k)) := HE.out.trans (chkF_drop hlt _)
        have HAH := Lib.hid (aheadOf_succ l k hlt)
        clear hc
        generalize fE l[k] (aheadOf l k) = F at *
        generalize aheadOf l k = ah at *
        generalize l[k] = p at *
        obtain ⟨file, name, image, r⟩ := p
        dsimp only [P1.val] at *
        have HP := Lib.hid (at_new wr (.cells #[.string file, .string name, .string image, .int .u8 r] 66))
        have HF1 := Lib.hid ((Fresh.refl wr).alloc (.cells #[.string file, .string name, .string image, .int .u8 r] 66))
        by_cases hF : F = 0
        · subst hF
          have HN : Hid (E = chkF file (l.drop (k + 1))) := by rw [Hid, HSTEP.out, if_pos rfl]
          clear HSTEP
          go_wp2_with (fail)
          all_goals try (exfalso; omega)
          refine (HFA.out _).mono ?_
          rintro e w1 ⟨rfl, hf⟩
          obtain ⟨⟨q0, q1, q2, q3⟩, _⟩ := p1_box (p := ⟨file, name, image, r⟩) (hf.at HP.out)
          have HF2 := Lib.hid ((HF.out.trans HF1.out).trans hf)
          clear hf
          go_wp2
          go_roundw
          case rel => exact ⟨k + 1, by simp, by rw [HAH.out], by omega, by rw [HAH.out]; exact HN.out, HF2.out⟩
          case measure => simp [intOf]; omega
        · have HR : Hid (E = F) := by rw [Hid, HSTEP.out, if_neg hF]
          have e0 : (F == 0) = false := by rw [beq_eq_false_iff_ne]; exact hF
          clear HSTEP
          go_wp2_with (fail)
          all_goals try (exfalso; omega)
          refine (HFA.out _).mono ?_
          rintro e w1 ⟨rfl, hf⟩
          have HF2 := Lib.hid ((HF.out.trans HF1.out).trans hf)
          clear hf
          go_wp2
          all_goals try (exfalso; omega)
          go_ret
          exact ⟨ret_int HR.out.symm, HF0.out.trans HF2.out⟩
      · obtain rfl : k = l.length := by omega
        have HR : Hid (E = 0) := by rw [Hid, HE.out, List.drop_of_length_le (Nat.le_refl _)]; rfl
        go_wp2
        all_goals try (exfalso; omega)
        go_ret
        exact ⟨ret_int HR.out.symm, HF0.out.trans HF.out⟩
end Go.Proofs.Ytphjhlnjfcfdcaa
