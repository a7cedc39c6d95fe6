/-
  What is wrong with a state of version 1, by the document.
-/
import Derived.Test.YtphjhlnjfcfdcaaKBase
import Derived.Test.YtphjhlnjfcfdcaaSName
import Derived.Test.YtphjhlnjfcfdcaaSDns3
namespace Go.Proofs.Ytphjhlnjfcfdcaa
open Go.ChangeShapes Go.WideShapes Go.ChangeAt Go.RowKit
set_option maxRecDepth 100000

theorem rname_tx (s : ByteArray) (w : World) (hs : s.size ≤ 4000000) : Calls Try.prog 35 #[.string s] w fun e w' => e = .returned (.bool (nameB s.data.toList)) ∧ Fresh w w' := by
  have := rname_any s.data.toList w (by rw [← Lib.size_eq]; exact hs)
  rwa [tx_of] at this
theorem wrap_pred {k : Nat} (h : 0 < k) (hk : k ≤ 4000000) : IntKind.i64.wrap ((k : Int) - 1) = ((k - 1 : Nat) : Int) := by
  rw [IntKind.wrap_i64]
  omega
set_option maxHeartbeats 4000000 in
theorem rcheck_any (seq : Int) (a : Option Addr) (l : List P1) (c : Nat) (w : World) (h : RowAt w a (p1s l)) (hf : ∀ p ∈ l, p.Fit 20000) (hl : l.length ≤ 4000000) :
    Calls Try.prog 12 #[st1 seq a l.length c] w fun e w' => e = .returned (.int .i64 (chk1 l)) ∧ Fresh w w' := by
  have HROW := Lib.hid h
  have HFT := Lib.hid hf
  have HC : Hid (chk1 l = if 1024 < l.length then 18 else chkF (aheadOf l 0) (l.drop 0)) := rfl
  have HA := Lib.hid (at_new w (.cells #[.int .u32 seq, .slice a l.length c] 30))
  have HF0 := Lib.hid ((Fresh.refl w).alloc (.cells #[.int .u32 seq, .slice a l.length c] 30))
  dsimp only [st1]
  clear h hf
  generalize chk1 l = E at *
  by_cases hm : 1024 < l.length
  · have HR : Hid (E = 18) := by rw [Hid, HC.out, if_pos hm]
    clear HC
    go_enter Try.func12, Try.ntmps12
    go_wp2
    all_goals try (exfalso; omega)
    go_ret
    exact ⟨ret_int HR.out.symm, HF0.out⟩
  · have HC2 : Hid (E = chkF (aheadOf l 0) (l.drop 0)) := by rw [Hid, HC.out, if_neg hm]
    clear HC
    go_enter Try.func12, Try.ntmps12
    go_wp2
    all_goals try (exfalso; omega)
    generalize w.alloc (.cells #[.int .u32 seq, .slice a l.length c] 30) = W0 at *
    obtain ⟨b, hb⟩ : ∃ b, b = w.heap.size := ⟨_, rfl⟩
    rw [← hb] at HA ⊢
    clear hb
    go_loopw [3] (fun a3 wr => ∃ (k : Nat), a3 = .int .i64 (k : Int) ∧ k ≤ l.length ∧ Hid (E = chkF (aheadOf l k) (l.drop k)) ∧ Hid (Fresh W0 wr)) (fun a3 _ => l.length - (intOf a3).toNat)
    case atStart => exact ⟨0, rfl, Nat.zero_le _, HC2.out, Fresh.refl _⟩
    case round =>
      obtain ⟨k, rfl, hk, HE, HF⟩ := hrel
      obtain ⟨b0, b1, _⟩ := st1_box (HF.out.at HA.out)
      by_cases hlt : k < l.length
      · obtain ⟨g, o1, rfl, hc⟩ := p1_form ((HROW.out.move HF0.out).move HF.out) hlt
        obtain ⟨c0, c1, c2, c3⟩ := hc k hlt
        have HPV : Hid (∀ (hk0 : 0 < k), wr.cell? ⟨g, o1 + (k - 1) * 4, none⟩ = some (.string (aheadOf l k))) := fun hk0 => by
          have h1 := (hc (k - 1) (by omega)).1
          have h2 := aheadOf_succ l (k - 1) (by omega)
          rw [Nat.sub_add_cancel hk0] at h2
          rw [h2]; exact h1
        have HFI := Lib.hid (HFT.out _ (List.getElem_mem hlt))
        have HSTEP : Hid (E = if fE l[k] (aheadOf l k) = 0 then chkF l[k].file (l.drop (k + 1)) else fE l[k] (aheadOf l k)) := HE.out.trans (chkF_drop hlt _)
        have HAH := Lib.hid (aheadOf_succ l k hlt)
        have HA0 : Hid (k = 0 → aheadOf l k = ⟨#[]⟩) := fun h => by rw [h]; rfl
        clear hc
        generalize aheadOf l k = ah at *
        generalize l[k] = p at *
        obtain ⟨file, name, image, r⟩ := p
        have HRF := Lib.hid (fun W => rfile_any file W (by have := HFI.out.file; unfold maxLen; dsimp only at this; omega))
        have HRN := Lib.hid (fun W => rname_tx name W (Nat.le_trans HFI.out.name (by omega)))
        have HRI := Lib.hid (fun W => rimage_drew image W (Nat.le_trans HFI.out.image (by omega)))
        have hr0 : 0 ≤ r := HFI.out.r0
        have HX : Hid (fE ⟨file, name, image, r⟩ ah = if fileB file = true ∧ nameB name.data.toList = true then (if imgB image.data.toList = true ∧ leS file ah = false then (if 2 < r then 7 else 0) else 6) else 13) := rfl
        have HLE : Hid (leS file ah = (Op.bytesLess file.toList ah.toList || file.toList == ah.toList)) := rfl
        have HL0 : Hid (fileB file = true → k = 0 → leS file ah = false) := fun h1 h2 => by
          rw [HA0.out h2]; exact leS_empty (file_one h1).1
        dsimp only at *
        generalize fE ⟨file, name, image, r⟩ ah = F at *
        have HP := Lib.hid (at_new wr (.cells #[.string file, .string name, .string image, .int .u8 r] 67))
        have HF1 := Lib.hid ((Fresh.refl wr).alloc (.cells #[.string file, .string name, .string image, .int .u8 r] 67))
        cases hf : fileB file with
        | false =>
          rw [hf] at HRF
          have HR : Hid (E = 13) := by
            have : F = 13 := by rw [HX.out, if_neg (by rw [hf]; simp)]
            rw [Hid, HSTEP.out, this, if_neg (by decide)]
          clear HSTEP HX HL0 HLE HAH HA0 HPV hf
          go_wp2_with (fail)
          all_goals try (exfalso; omega)
          refine (HRF.out _).mono ?_
          rintro e w1 ⟨rfl, rfl⟩
          go_wp2
          go_ret
          exact ⟨ret_int HR.out.symm, (HF0.out.trans HF.out).trans HF1.out⟩
        | true =>
          rw [hf] at HRF
          cases hn : nameB name.data.toList with
          | false =>
            rw [hn] at HRN
            have HR : Hid (E = 13) := by
              have : F = 13 := by rw [HX.out, if_neg (by rw [hn]; simp)]
              rw [Hid, HSTEP.out, this, if_neg (by decide)]
            clear HSTEP HX HL0 HLE HAH HA0 HPV hf hn
            go_wp2_with (fail)
            all_goals try (exfalso; omega)
            refine (HRF.out _).mono ?_
            rintro e w1 ⟨rfl, rfl⟩
            go_wp2_with (fail)
            refine (HRN.out _).mono ?_
            rintro e w1 ⟨rfl, hf⟩
            have HF2 := Lib.hid (((HF0.out.trans HF.out).trans HF1.out).trans hf)
            clear hf
            go_wp2
            go_ret
            exact ⟨ret_int HR.out.symm, HF2.out⟩
          | true =>
            rw [hn] at HRN
            have HX2 : Hid (F = if imgB image.data.toList = true ∧ leS file ah = false then (if 2 < r then 7 else 0) else 6) := by rw [Hid, HX.out, if_pos ⟨hf, hn⟩]
            have HL1 := Lib.hid (HL0.out hf)
            clear HX HL0 hf hn
            go_wp2_with (fail)
            all_goals try (exfalso; omega)
            refine (HRF.out _).mono ?_
            rintro e w1 ⟨rfl, rfl⟩
            go_wp2_with (fail)
            refine (HRN.out _).mono ?_
            rintro e w1 ⟨rfl, hf⟩
            obtain ⟨⟨q0, q1, q2, q3⟩, _⟩ := p1_box (p := ⟨file, name, image, r⟩) (hf.at HP.out)
            obtain ⟨d0, d1, _⟩ := st1_box ((HF1.out.trans hf).at (HF.out.at HA.out))
            have hF2 := (HF1.out.trans hf)
            have HF2 := Lib.hid ((HF.out.trans HF1.out).trans hf)
            have HPV2 := Lib.hid (fun (hk0 : 0 < k) => hF2.cell (HPV.out hk0))
            clear hf HP HF1 HPV b0 b1 c0 c1 c2 c3 hF2
            obtain ⟨z, hz⟩ : ∃ z, z = wr.heap.size := ⟨_, rfl⟩
            rw [← hz] at q0 q1 q2 q3 ⊢
            clear hz
            have HFW := Lib.hid (HF0.out.trans HF2.out)
            cases hi : imgB image.data.toList with
            | false =>
              rw [hi] at HRI
              have HR : Hid (E = 6) := by
                have : F = 6 := by rw [HX2.out, if_neg (by rw [hi]; simp)]
                rw [Hid, HSTEP.out, this, if_neg (by decide)]
              clear HSTEP HX2 HLE HL1 hi HPV2 HAH HA0
              go_wp2_with (fail)
              go_quiet (exact Calls.quiet_of (HRI.out _))
              go_wp2
              go_ret
              exact ⟨ret_int HR.out.symm, HFW.out.trans (fresh_drewN _ _)⟩
            | true =>
              rw [hi] at HRI
              have HX3 : Hid (F = if leS file ah = false then (if 2 < r then 7 else 0) else 6) := by rw [Hid, HX2.out]; simp only [hi, true_and]
              clear HX2 hi
              have hxx := HLE.out
              generalize hx1 : Op.bytesLess file.toList ah.toList = x1 at *
              generalize hx2 : (file.toList == ah.toList) = x2 at *
              generalize leS file ah = L at *
              by_cases hk0 : k = 0
              · subst hk0
                obtain rfl := HL1.out rfl
                have HX4 : Hid (F = if 2 < r then 7 else 0) := by rw [Hid, HX3.out]; rfl
                clear HX3 HL1 HLE HPV2 hxx hx1 hx2
                by_cases h2 : 2 < r
                · have HR : Hid (E = 7) := by
                    have : F = 7 := by rw [HX4.out, if_pos h2]
                    rw [Hid, HSTEP.out, this, if_neg (by decide)]
                  clear HSTEP HX4
                  go_wp2_with (fail)
                  go_quiet (exact Calls.quiet_of (HRI.out _))
                  go_wp2
                  all_goals try (exfalso; omega)
                  go_ret
                  exact ⟨ret_int HR.out.symm, HFW.out.trans (fresh_drewN _ _)⟩
                · have HN : Hid (E = chkF file (l.drop (0 + 1))) := by
                    have : F = 0 := by rw [HX4.out, if_neg h2]
                    rw [Hid, HSTEP.out, if_pos this]
                  clear HSTEP HX4
                  go_wp2_with (fail)
                  go_quiet (exact Calls.quiet_of (HRI.out _))
                  go_wp2
                  all_goals try (exfalso; omega)
                  go_roundw
                  case rel => exact ⟨0 + 1, by simp, by omega, by rw [HAH.out]; exact HN.out, HF2.out.trans (fresh_drewN _ _)⟩
                  case measure => simp [intOf]; omega
              · have hk1 : 0 < k := by omega
                have hpv := HPV2.out hk1
                have hw := wrap_pred hk1 (by omega)
                have i1 : (0 : Int) ≤ ((k - 1 : Nat) : Int) := by omega
                have i2 : ((k - 1 : Nat) : Int) < (l.length : Int) := by omega
                clear HPV2 HL1 HA0 hk0
                cases hl : (x1 || x2) with
                | true =>
                  have HR : Hid (E = 6) := by
                    have : F = 6 := by rw [HX3.out, HLE.out, hl]; simp
                    rw [Hid, HSTEP.out, this, if_neg (by decide)]
                  clear HSTEP HX3 HLE hxx
                  cases x1 <;> cases x2 <;> simp at hl <;> (go_wp2_with (fail); go_quiet (exact Calls.quiet_of (HRI.out _)); go_wp2; go_ret; exact ⟨ret_int HR.out.symm, HFW.out.trans (fresh_drewN _ _)⟩)
                | false =>
                  have HX4 : Hid (F = if 2 < r then 7 else 0) := by rw [Hid, HX3.out, HLE.out, hl]; simp
                  clear HX3 HLE hxx
                  simp only [Bool.or_eq_false_iff] at hl
                  obtain ⟨rfl, rfl⟩ := hl
                  by_cases h2 : 2 < r
                  · have HR : Hid (E = 7) := by
                      have : F = 7 := by rw [HX4.out, if_pos h2]
                      rw [Hid, HSTEP.out, this, if_neg (by decide)]
                    clear HSTEP HX4
                    go_wp2_with (fail)
                    go_quiet (exact Calls.quiet_of (HRI.out _))
                    go_wp2
                    all_goals try (exfalso; omega)
                    go_ret
                    exact ⟨ret_int HR.out.symm, HFW.out.trans (fresh_drewN _ _)⟩
                  · have HN : Hid (E = chkF file (l.drop (k + 1))) := by
                      have : F = 0 := by rw [HX4.out, if_neg h2]
                      rw [Hid, HSTEP.out, if_pos this]
                    clear HSTEP HX4
                    go_wp2_with (fail)
                    go_quiet (exact Calls.quiet_of (HRI.out _))
                    go_wp2
                    all_goals try (exfalso; omega)
                    go_roundw
                    case rel => exact ⟨k + 1, by simp, by omega, by rw [HAH.out]; exact HN.out, HF2.out.trans (fresh_drewN _ _)⟩
                    case measure => simp [intOf]; omega
      · obtain rfl : k = l.length := by omega
        have HR : Hid (E = 0) := by rw [Hid, HE.out, List.drop_of_length_le (Nat.le_refl _)]; rfl
        go_wp2
        all_goals try (exfalso; omega)
        go_ret
        exact ⟨ret_int HR.out.symm, HF0.out.trans HF.out⟩
end Go.Proofs.Ytphjhlnjfcfdcaa
