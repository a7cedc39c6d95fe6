/-
  What is wrong with a state of version 1, by the document.
  What is wrong with a state of version 2, by the document (printed by genrcheck2.py.txt).
  States of version 1: few pods, and short texts.
-/
import Derived.Test.YtldncgelghcjeaaGreatDoorCat05
import Derived.Test.YtldncgelghcjeaaGreatDoorCat15
import Derived.Test.YtldncgelghcjeaaGreatDoorKee01
import Derived.Test.YtldncgelghcjeaaGreatDoorCat02
set_option linter.unusedSimpArgs false
set_option linter.unusedVariables false
namespace Go.Proofs.YtldncgelghcjeaaGreatDoor.K
open Go.ChangeShapes Go.WideShapes Go.ChangeAt Go.RowKit
set_option maxRecDepth 100000

theorem rname_tx (s : ByteArray) (w : World) (hs : s.size ≤ 4000000) : Calls Tryz.prog 78 #[.string s] w fun e w' => e = .returned (.bool (nameB s.data.toList)) ∧ Fresh w w' := by
  have := rname_any s.data.toList w (by rw [← Lib.size_eq]; exact hs)
  rwa [tx_of] at this
theorem wrap_pred {k : Nat} (h : 0 < k) (hk : k ≤ 4000000) : IntKind.i64.wrap ((k : Int) - 1) = ((k - 1 : Nat) : Int) := by
  rw [IntKind.wrap_i64]
  omega
set_option maxHeartbeats 4000000 in
theorem rcheck_any (seq : Int) (a : Option Addr) (l : List P1) (c : Nat) (w : World) (h : RowAt w a (p1s l)) (hf : ∀ p ∈ l, p.Fit 20000) (hl : l.length ≤ 4000000) :
    Calls Tryz.prog 37 #[st1 seq a l.length c] w fun e w' => e = .returned (.int .i64 (chk1 l)) ∧ Fresh w w' := by
  have HROW := Lib.hid h
  have HFT := Lib.hid hf
  have HC : Hid (chk1 l = if 1024 < l.length then 18 else chkF (aheadOf l 0) (l.drop 0)) := rfl
  have HA := Lib.hid (at_new w (.cells #[.int .u32 seq, .slice a l.length c] 71))
  have HF0 := Lib.hid ((Fresh.refl w).alloc (.cells #[.int .u32 seq, .slice a l.length c] 71))
  dsimp only [st1]
  clear h hf
  generalize chk1 l = E at *
  by_cases hm : 1024 < l.length
  · have HR : Hid (E = 18) := by rw [Hid, HC.out, if_pos hm]
    clear HC
    go_enter Tryz.func37, Tryz.ntmps37
    go_wp2
    all_goals try (exfalso; omega)
    go_ret
    exact ⟨ret_int HR.out.symm, HF0.out⟩
  · have HC2 : Hid (E = chkF (aheadOf l 0) (l.drop 0)) := by rw [Hid, HC.out, if_neg hm]
    clear HC
    go_enter Tryz.func37, Tryz.ntmps37
    go_wp2
    all_goals try (exfalso; omega)
    generalize w.alloc (.cells #[.int .u32 seq, .slice a l.length c] 71) = W0 at *
    obtain ⟨b, hb⟩ : ∃ b, b = w.heap.size := ⟨_, rfl⟩
    rw [← hb] at HA ⊢
    clear hb
    go_loopw [3] (fun a3 wr => ∃ (k : Nat), a3 = .int .i64 (k : Int) ∧ k ≤ l.length ∧ Hid (E = chkF (aheadOf l k) (l.drop k)) ∧ Hid (Fresh W0 wr)) (fun a3 _ => l.length - (intOf a3).toNat)
    case atStart => exact ⟨0, rfl, Nat.zero_le _, HC2.out, Fresh.refl _⟩
    case round =>
      obtain ⟨k, rfl, hk, HE, HF⟩ := hrel
      obtain ⟨b0, b1, _⟩ := st1_box (HF.out.at HA.out)
      by_cases hlt : k < l.length
      · obtain ⟨g, o1, rfl, hc⟩ := p1_form ((HROW.out.move HF0.out).move HF.out) hlt
        obtain ⟨c0, c1, c2, c3⟩ := hc k hlt
        have HPV : Hid (∀ (hk0 : 0 < k), wr.cell? ⟨g, o1 + (k - 1) * 4, none⟩ = some (.string (aheadOf l k))) := fun hk0 => by
          have h1 := (hc (k - 1) (by omega)).1
          have h2 := aheadOf_succ l (k - 1) (by omega)
          rw [Nat.sub_add_cancel hk0] at h2
          rw [h2]; exact h1
        have HFI := Lib.hid (HFT.out _ (List.getElem_mem hlt))
        have HSTEP : Hid (E = if fE l[k] (aheadOf l k) = 0 then chkF l[k].file (l.drop (k + 1)) else fE l[k] (aheadOf l k)) := HE.out.trans (chkF_drop hlt _)
        have HAH := Lib.hid (aheadOf_succ l k hlt)
        have HA0 : Hid (k = 0 → aheadOf l k = ⟨#[]⟩) := fun h => by rw [h]; rfl
        clear hc
        generalize aheadOf l k = ah at *
        generalize l[k] = p at *
        obtain ⟨file, name, image, r⟩ := p
        have HRF := Lib.hid (fun W => rfile_any file W (by have := HFI.out.file; unfold maxLen; dsimp only at this; omega))
        have HRN := Lib.hid (fun W => rname_tx name W (Nat.le_trans HFI.out.name (by omega)))
        have HRI := Lib.hid (fun W => rimage_drew image W (Nat.le_trans HFI.out.image (by omega)))
        have hr0 : 0 ≤ r := HFI.out.r0
        have HX : Hid (fE ⟨file, name, image, r⟩ ah = if fileB file = true ∧ nameB name.data.toList = true then (if imgB image.data.toList = true ∧ leS file ah = false then (if 2 < r then 7 else 0) else 6) else 13) := rfl
        have HLE : Hid (leS file ah = (Op.bytesLess file.toList ah.toList || file.toList == ah.toList)) := rfl
        have HL0 : Hid (fileB file = true → k = 0 → leS file ah = false) := fun h1 h2 => by
          rw [HA0.out h2]; exact leS_empty (file_one h1).1
        dsimp only at *
        generalize fE ⟨file, name, image, r⟩ ah = F at *
        have HP := Lib.hid (at_new wr (.cells #[.string file, .string name, .string image, .int .u8 r] 161))
        have HF1 := Lib.hid ((Fresh.refl wr).alloc (.cells #[.string file, .string name, .string image, .int .u8 r] 161))
        cases hf : fileB file with
        | false =>
          rw [hf] at HRF
          have HR : Hid (E = 13) := by
            have : F = 13 := by rw [HX.out, if_neg (by rw [hf]; simp)]
            rw [Hid, HSTEP.out, this, if_neg (by decide)]
          clear HSTEP HX HL0 HLE HAH HA0 HPV hf
          go_wp2_with (fail)
          all_goals try (exfalso; omega)
          refine (HRF.out _).mono ?_
          rintro e w1 ⟨rfl, rfl⟩
          go_wp2
          go_ret
          exact ⟨ret_int HR.out.symm, (HF0.out.trans HF.out).trans HF1.out⟩
        | true =>
          rw [hf] at HRF
          cases hn : nameB name.data.toList with
          | false =>
            rw [hn] at HRN
            have HR : Hid (E = 13) := by
              have : F = 13 := by rw [HX.out, if_neg (by rw [hn]; simp)]
              rw [Hid, HSTEP.out, this, if_neg (by decide)]
            clear HSTEP HX HL0 HLE HAH HA0 HPV hf hn
            go_wp2_with (fail)
            all_goals try (exfalso; omega)
            refine (HRF.out _).mono ?_
            rintro e w1 ⟨rfl, rfl⟩
            go_wp2_with (fail)
            refine (HRN.out _).mono ?_
            rintro e w1 ⟨rfl, hf⟩
            have HF2 := Lib.hid (((HF0.out.trans HF.out).trans HF1.out).trans hf)
            clear hf
            go_wp2
            go_ret
            exact ⟨ret_int HR.out.symm, HF2.out⟩
          | true =>
            rw [hn] at HRN
            have HX2 : Hid (F = if imgB image.data.toList = true ∧ leS file ah = false then (if 2 < r then 7 else 0) else 6) := by rw [Hid, HX.out, if_pos ⟨hf, hn⟩]
            have HL1 := Lib.hid (HL0.out hf)
            clear HX HL0 hf hn
            go_wp2_with (fail)
            all_goals try (exfalso; omega)
            refine (HRF.out _).mono ?_
            rintro e w1 ⟨rfl, rfl⟩
            go_wp2_with (fail)
            refine (HRN.out _).mono ?_
            rintro e w1 ⟨rfl, hf⟩
            obtain ⟨⟨q0, q1, q2, q3⟩, _⟩ := p1_box (p := ⟨file, name, image, r⟩) (hf.at HP.out)
            obtain ⟨d0, d1, _⟩ := st1_box ((HF1.out.trans hf).at (HF.out.at HA.out))
            have hF2 := (HF1.out.trans hf)
            have HF2 := Lib.hid ((HF.out.trans HF1.out).trans hf)
            have HPV2 := Lib.hid (fun (hk0 : 0 < k) => hF2.cell (HPV.out hk0))
            clear hf HP HF1 HPV b0 b1 c0 c1 c2 c3 hF2
            obtain ⟨z, hz⟩ : ∃ z, z = wr.heap.size := ⟨_, rfl⟩
            rw [← hz] at q0 q1 q2 q3 ⊢
            clear hz
            have HFW := Lib.hid (HF0.out.trans HF2.out)
            cases hi : imgB image.data.toList with
            | false =>
              rw [hi] at HRI
              have HR : Hid (E = 6) := by
                have : F = 6 := by rw [HX2.out, if_neg (by rw [hi]; simp)]
                rw [Hid, HSTEP.out, this, if_neg (by decide)]
              clear HSTEP HX2 HLE HL1 hi HPV2 HAH HA0
              go_wp2_with (fail)
              go_quiet (exact Calls.quiet_of (HRI.out _))
              go_wp2
              go_ret
              exact ⟨ret_int HR.out.symm, HFW.out.trans (fresh_drewN _ _)⟩
            | true =>
              rw [hi] at HRI
              have HX3 : Hid (F = if leS file ah = false then (if 2 < r then 7 else 0) else 6) := by rw [Hid, HX2.out]; simp only [hi, true_and]
              clear HX2 hi
              have hxx := HLE.out
              generalize hx1 : Op.bytesLess file.toList ah.toList = x1 at *
              generalize hx2 : (file.toList == ah.toList) = x2 at *
              generalize leS file ah = L at *
              by_cases hk0 : k = 0
              · subst hk0
                obtain rfl := HL1.out rfl
                have HX4 : Hid (F = if 2 < r then 7 else 0) := by rw [Hid, HX3.out]; rfl
                clear HX3 HL1 HLE HPV2 hxx hx1 hx2
                by_cases h2 : 2 < r
                · have HR : Hid (E = 7) := by
                    have : F = 7 := by rw [HX4.out, if_pos h2]
                    rw [Hid, HSTEP.out, this, if_neg (by decide)]
                  clear HSTEP HX4
                  go_wp2_with (fail)
                  go_quiet (exact Calls.quiet_of (HRI.out _))
                  go_wp2
                  all_goals try (exfalso; omega)
                  go_ret
                  exact ⟨ret_int HR.out.symm, HFW.out.trans (fresh_drewN _ _)⟩
                · have HN : Hid (E = chkF file (l.drop (0 + 1))) := by
                    have : F = 0 := by rw [HX4.out, if_neg h2]
                    rw [Hid, HSTEP.out, if_pos this]
                  clear HSTEP HX4
                  go_wp2_with (fail)
                  go_quiet (exact Calls.quiet_of (HRI.out _))
                  go_wp2
                  all_goals try (exfalso; omega)
                  go_roundw
                  case rel => exact ⟨0 + 1, by simp, by omega, by rw [HAH.out]; exact HN.out, HF2.out.trans (fresh_drewN _ _)⟩
                  case measure => simp [intOf]; omega
              · have hk1 : 0 < k := by omega
                have hpv := HPV2.out hk1
                have hw := wrap_pred hk1 (by omega)
                have i1 : (0 : Int) ≤ ((k - 1 : Nat) : Int) := by omega
                have i2 : ((k - 1 : Nat) : Int) < (l.length : Int) := by omega
                clear HPV2 HL1 HA0 hk0
                cases hl : (x1 || x2) with
                | true =>
                  have HR : Hid (E = 6) := by
                    have : F = 6 := by rw [HX3.out, HLE.out, hl]; simp
                    rw [Hid, HSTEP.out, this, if_neg (by decide)]
                  clear HSTEP HX3 HLE hxx
                  cases x1 <;> cases x2 <;> simp at hl <;> (go_wp2_with (fail); go_quiet (exact Calls.quiet_of (HRI.out _)); go_wp2; go_ret; exact ⟨ret_int HR.out.symm, HFW.out.trans (fresh_drewN _ _)⟩)
                | false =>
                  have HX4 : Hid (F = if 2 < r then 7 else 0) := by rw [Hid, HX3.out, HLE.out, hl]; simp
                  clear HX3 HLE hxx
                  simp only [Bool.or_eq_false_iff] at hl
                  obtain ⟨rfl, rfl⟩ := hl
                  by_cases h2 : 2 < r
                  · have HR : Hid (E = 7) := by
                      have : F = 7 := by rw [HX4.out, if_pos h2]
                      rw [Hid, HSTEP.out, this, if_neg (by decide)]
                    clear HSTEP HX4
                    go_wp2_with (fail)
                    go_quiet (exact Calls.quiet_of (HRI.out _))
                    go_wp2
                    all_goals try (exfalso; omega)
                    go_ret
                    exact ⟨ret_int HR.out.symm, HFW.out.trans (fresh_drewN _ _)⟩
                  · have HN : Hid (E = chkF file (l.drop (k + 1))) := by
                      have : F = 0 := by rw [HX4.out, if_neg h2]
                      rw [Hid, HSTEP.out, if_pos this]
                    clear HSTEP HX4
                    go_wp2_with (fail)
                    go_quiet (exact Calls.quiet_of (HRI.out _))
                    go_wp2
                    all_goals try (exfalso; omega)
                    go_roundw
                    case rel => exact ⟨k + 1, by simp, by omega, by rw [HAH.out]; exact HN.out, HF2.out.trans (fresh_drewN _ _)⟩
                    case measure => simp [intOf]; omega
      · obtain rfl : k = l.length := by omega
        have HR : Hid (E = 0) := by rw [Hid, HE.out, List.drop_of_length_le (Nat.le_refl _)]; rfl
        go_wp2
        all_goals try (exfalso; omega)
        go_ret
        exact ⟨ret_int HR.out.symm, HF0.out.trans HF.out⟩
end Go.Proofs.YtldncgelghcjeaaGreatDoor.K
namespace Go.Proofs.YtldncgelghcjeaaGreatDoor.K
open Go.ChangeShapes Go.WideShapes Go.ChangeAt Go.RowKit
set_option maxRecDepth 100000

theorem memN_drop {s : ByteArray} {l : List C2} {x : Nat} (h : x < l.length) : memN s (l.drop x) = (decide (l[x].name = s) || memN s (l.drop (x + 1))) := by
  rw [List.drop_eq_getElem_cons h]; rfl
theorem eq_toList (a b : ByteArray) : (a.toList == b.toList) = decide (a = b) := by
  rw [Lib.toList_data, Lib.toList_data]
  by_cases h : a = b
  · subst h; simp
  · rw [decide_eq_false h]
    rw [beq_eq_false_iff_ne]
    intro e
    exact h (ByteArray.ext (Array.toList_inj.1 e))
set_option maxHeartbeats 16000000 in
theorem rcheck2_any (seq : Int) (a : Option Addr) (l : List M2) (c : Nat) (w : World) (h : Row2 w a l) (hf : ∀ m ∈ l, m.p.Fit 20000) (hl : l.length ≤ 4000000) :
    Calls Tryz.prog 38 #[st2 seq a l.length c] w fun e w' => e = .returned (.int .i64 (chk2 (pods2 l))) ∧ Fresh w w' := by
  have HROW := Lib.hid h
  have HFT := Lib.hid hf
  have hpl : (pods2 l).length = l.length := by simp [pods2]
  have HC : Hid (chk2 (pods2 l) = if 1024 < l.length then 18 else chk2F (ahead2 (pods2 l) 0) ((pods2 l).drop 0)) := by rw [Hid, chk2, hpl]; rfl
  have HA := Lib.hid (at_new w (.cells #[.int .u64 seq, .slice a l.length c] 75))
  have HF0 := Lib.hid ((Fresh.refl w).alloc (.cells #[.int .u64 seq, .slice a l.length c] 75))
  dsimp only [st2]
  clear h hf
  generalize chk2 (pods2 l) = E at *
  by_cases hm : 1024 < l.length
  · have HR : Hid (E = 18) := by rw [Hid, HC.out, if_pos hm]
    clear HC
    go_enter Tryz.func38, Tryz.ntmps38
    go_wp2
    all_goals try (exfalso; omega)
    go_ret
    exact ⟨ret_int HR.out.symm, HF0.out⟩
  have HC2 : Hid (E = chk2F (ahead2 (pods2 l) 0) ((pods2 l).drop 0)) := by rw [Hid, HC.out, if_neg hm]
  clear HC
  go_enter Tryz.func38, Tryz.ntmps38
  go_wp2
  all_goals try (exfalso; omega)
  generalize w.alloc (.cells #[.int .u64 seq, .slice a l.length c] 75) = W0 at *
  obtain ⟨b, hb⟩ : ∃ b, b = w.heap.size := ⟨_, rfl⟩
  rw [← hb] at HA ⊢
  clear hb
  go_loopw [3] (fun a3 wr => ∃ (k : Nat), a3 = .int .i64 (k : Int) ∧ k ≤ l.length ∧ Hid (E = chk2F (ahead2 (pods2 l) k) ((pods2 l).drop k)) ∧ Hid (Fresh W0 wr)) (fun a3 _ => l.length - (intOf a3).toNat)
  case atStart => exact ⟨0, rfl, Nat.zero_le _, HC2.out, Fresh.refl _⟩
  case round =>
  obtain ⟨k, rfl, hk, HE, HF⟩ := hrel
  obtain ⟨b0, b1, _⟩ := st2_box (HF.out.at HA.out)
  by_cases hlt : ¬ k < l.length
  · obtain rfl : k = l.length := by omega
    have HR : Hid (E = 0) := by rw [Hid, HE.out, List.drop_of_length_le (by omega)]; rfl
    go_wp2
    all_goals try (exfalso; omega)
    go_ret
    exact ⟨ret_int HR.out.symm, HF0.out.trans HF.out⟩
  have hlt : k < l.length := by omega
  have hRw := (HROW.out.move HF0.out).move HF.out
  obtain ⟨g, o1, rfl, hc⟩ := m2_form hRw.row hlt
  obtain ⟨c0, c1, c2, c3, c4, c5⟩ := hc k hlt
  have hkp : k < (pods2 l).length := by omega
  have hpk : ∀ (j : Nat) (hj : j < l.length) (hj' : j < (pods2 l).length), (pods2 l)[j] = l[j].p := fun j _ _ => by simp [pods2]
  have HPV : Hid (∀ (hk0 : 0 < k), wr.cell? ⟨g, o1 + (k - 1) * 6, none⟩ = some (.string (ahead2 (pods2 l) k))) := fun hk0 => by
    have h1 := (hc (k - 1) (by omega)).1
    have h2 := ahead2_succ (pods2 l) (k - 1) (by omega)
    rw [Nat.sub_add_cancel hk0, hpk (k - 1) (by omega)] at h2
    rw [h2]; exact h1
  have HFI := Lib.hid (HFT.out _ (List.getElem_mem hlt))
  have HIN := Lib.hid (hRw.ins _ (List.getElem_mem hlt))
  have HSTEP : Hid (E = if f2E l[k].p (ahead2 (pods2 l) k) = 0 then chk2F l[k].p.file ((pods2 l).drop (k + 1)) else f2E l[k].p (ahead2 (pods2 l) k)) := by
    have := HE.out.trans (chk2F_drop hkp _)
    rw [hpk k hlt hkp] at this; exact this
  have HAH : Hid (ahead2 (pods2 l) (k + 1) = l[k].p.file) := by have := ahead2_succ (pods2 l) k hkp; rw [hpk k hlt hkp] at this; exact this
  have HA0 : Hid (k = 0 → ahead2 (pods2 l) k = ⟨#[]⟩) := fun h => by rw [h]; rfl
  clear hc hRw hkp hpk HE
  generalize ahead2 (pods2 l) k = ah at *
  generalize l[k] = m at *
  obtain ⟨⟨file, name, ns, r, gr, cs⟩, ca, cc⟩ := m
  have HRF := Lib.hid (fun W => rfile_any file W (by have := HFI.out.file; unfold maxLen; dsimp only at this; omega))
  have HRN := Lib.hid (fun W => rname_tx name W (Nat.le_trans HFI.out.name (by omega)))
  have HRL := Lib.hid (fun W => rlabel_any ns W (Nat.le_trans HFI.out.ns (by omega)))
  have hr0 : 0 ≤ r := HFI.out.r0
  have hg0 : 0 ≤ gr := HFI.out.g0
  have HCF : Hid (∀ x ∈ cs, x.name.size ≤ 20000 ∧ x.image.size ≤ 20000) := HFI.out.cs
  have HCR : Hid (RowAt wr ca (c2s cs)) := HIN.out.1
  have HF2E : Hid (f2E ⟨file, name, ns, r, gr, cs⟩ ah = if head2E ⟨file, name, ns, r, gr, cs⟩ ah = 0 then cs2E (cs.take 0) (cs.drop 0) else head2E ⟨file, name, ns, r, gr, cs⟩ ah) := rfl
  have HH : Hid (head2E ⟨file, name, ns, r, gr, cs⟩ ah = if fileB file = true ∧ nameB name.data.toList = true ∧ labB ns.data.toList = true then
    (if leS file ah = true then 6 else if 2 < r ∨ gr < 1 ∨ 3600 < gr then 7 else if cs.length = 0 then 16 else if 16 < cs.length then 18 else 0) else 13) := rfl
  have HLE : Hid (leS file ah = (Op.bytesLess file.toList ah.toList || file.toList == ah.toList)) := rfl
  have HL0 : Hid (fileB file = true → k = 0 → leS file ah = false) := fun h1 h2 => by
    rw [HA0.out h2]; exact leS_empty (file_one h1).1
  dsimp only at *
  clear HFI HIN HA0
  generalize f2E ⟨file, name, ns, r, gr, cs⟩ ah = F at *
  generalize head2E ⟨file, name, ns, r, gr, cs⟩ ah = H at *
  have HP := Lib.hid (at_new wr (.cells #[.string file, .string name, .string ns, .int .u8 r, .int .u16 gr, .slice ca cs.length cc] 164))
  have HF1 := Lib.hid ((Fresh.refl wr).alloc (.cells #[.string file, .string name, .string ns, .int .u8 r, .int .u16 gr, .slice ca cs.length cc] 164))
  have HBAD : Hid (∀ j : Int, H = j → j ≠ 0 → E = j) := fun j h h0 => by rw [HSTEP.out, HF2E.out, h, if_neg h0, if_neg h0]
  have H13 : Hid (¬ (fileB file = true ∧ nameB name.data.toList = true ∧ labB ns.data.toList = true) → E = 13) := fun h => HBAD.out 13 (by rw [HH.out, if_neg h]) (by decide)
  cases hf : fileB file with
  | false =>
    rw [hf] at HRF
    have HR := Lib.hid (H13.out (by rw [hf]; simp))
    clear HSTEP HH H13 HBAD HL0 HLE HAH HPV hf HF2E
    go_wp2_with (fail)
    all_goals try (exfalso; omega)
    refine (HRF.out _).mono ?_
    rintro e w1 ⟨rfl, rfl⟩
    go_wp2
    go_ret
    exact ⟨ret_int HR.out.symm, (HF0.out.trans HF.out).trans HF1.out⟩
  | true =>
  rw [hf] at HRF
  cases hn : nameB name.data.toList with
  | false =>
    rw [hn] at HRN
    have HR := Lib.hid (H13.out (by rw [hn]; simp))
    clear HSTEP HH H13 HBAD HL0 HLE HAH HPV hf hn HF2E
    go_wp2_with (fail)
    all_goals try (exfalso; omega)
    refine (HRF.out _).mono ?_
    rintro e w1 ⟨rfl, rfl⟩
    go_wp2_with (fail)
    refine (HRN.out _).mono ?_
    rintro e w1 ⟨rfl, hf⟩
    have HF2 := Lib.hid (((HF0.out.trans HF.out).trans HF1.out).trans hf)
    clear hf
    go_wp2
    go_ret
    exact ⟨ret_int HR.out.symm, HF2.out⟩
  | true =>
  rw [hn] at HRN
  cases hs : labB ns.data.toList with
  | false =>
    rw [hs] at HRL
    have HR := Lib.hid (H13.out (by rw [hs]; simp))
    clear HSTEP HH H13 HBAD HL0 HLE HAH HPV hf hn hs HF2E
    go_wp2_with (fail)
    all_goals try (exfalso; omega)
    refine (HRF.out _).mono ?_
    rintro e w1 ⟨rfl, rfl⟩
    go_wp2_with (fail)
    refine (HRN.out _).mono ?_
    rintro e w1 ⟨rfl, hf⟩
    have q2 := cell_of_at (hf.at HP.out) (i := 2) rfl
    have HF2 := Lib.hid (((HF0.out.trans HF.out).trans HF1.out).trans hf)
    clear hf
    go_wp2_with (fail)
    refine (HRL.out _).mono ?_
    rintro e w2 ⟨rfl, rfl⟩
    go_wp2
    go_ret
    exact ⟨ret_int HR.out.symm, HF2.out⟩
  | true =>
  rw [hs] at HRL
  have HH2 : Hid (H = if leS file ah = true then 6 else if 2 < r ∨ gr < 1 ∨ 3600 < gr then 7 else if cs.length = 0 then 16 else if 16 < cs.length then 18 else 0) := by rw [Hid, HH.out, if_pos ⟨hf, hn, hs⟩]
  have HL1 := Lib.hid (HL0.out hf)
  clear HH H13 HL0 hf hn hs
  go_wp2_with (fail)
  all_goals try (exfalso; omega)
  refine (HRF.out _).mono ?_
  rintro e w1 ⟨rfl, rfl⟩
  go_wp2_with (fail)
  refine (HRN.out _).mono ?_
  rintro e w1 ⟨rfl, hf⟩
  obtain ⟨⟨q0, q1, q2, q3, q4, q5⟩, _⟩ := m2_box (m := ⟨⟨file, name, ns, r, gr, cs⟩, ca, cc⟩) (hf.at HP.out)
  obtain ⟨d0, d1, _⟩ := st2_box ((HF1.out.trans hf).at (HF.out.at HA.out))
  have hF2 := (HF1.out.trans hf)
  have HF2 := Lib.hid ((HF.out.trans HF1.out).trans hf)
  have HPV2 := Lib.hid (fun (hk0 : 0 < k) => hF2.cell (HPV.out hk0))
  have HCR := Lib.hid (HCR.out.move hF2)
  have HZ := Lib.hid (hf.at HP.out)
  dsimp only at q0 q1 q2 q3 q4 q5
  clear hf HP HF1 HPV b0 b1 c0 c1 c2 c3 c4 c5 hF2
  obtain ⟨z, hz⟩ : ∃ z, z = wr.heap.size := ⟨_, rfl⟩
  rw [← hz] at q0 q1 q2 q3 q4 q5 HZ ⊢
  clear hz
  have HFW := Lib.hid (HF0.out.trans HF2.out)
  go_wp2_with (fail)
  refine (HRL.out _).mono ?_
  rintro e w2 ⟨rfl, rfl⟩
  clear HRF HRN HRL
  have hxx := HLE.out
  generalize hx1 : Op.bytesLess file.toList ah.toList = x1 at *
  generalize hx2 : (file.toList == ah.toList) = x2 at *
  generalize leS file ah = L at *
  by_cases hk0 : k = 0
  · subst hk0
    obtain rfl := HL1.out rfl
    have HH3 : Hid (H = if 2 < r ∨ gr < 1 ∨ 3600 < gr then 7 else if cs.length = 0 then 16 else if 16 < cs.length then 18 else 0) := by rw [Hid, HH2.out, if_neg (by simp)]
    clear HH2 HL1 HLE HPV2 hxx hx1 hx2
    go_wp2_with (fail)
    go_quiet (fail)
    have HFW := Lib.hid (HFW.out.trans (fresh_drewN w1 nq))
    have HF2 := Lib.hid (HF2.out.trans (fresh_drewN w1 nq))
    have HCR : Hid (RowAt (w1.drewN nq) ca (c2s cs)) := HCR.out.move (fresh_drewN w1 nq)
    have HZ : Hid ((w1.drewN nq).heap[z]? = some (.cells #[.string file, .string name, .string ns, .int .u8 r, .int .u16 gr, .slice ca cs.length cc] 164)) := HZ.out
    by_cases hrg : 2 < r ∨ gr < 1 ∨ 3600 < gr
    · have HR := Lib.hid (HBAD.out 7 (by rw [HH3.out, if_pos hrg]) (by decide))
      clear HSTEP HH3 HBAD HF2E
      by_cases h1 : 2 < r
      · go_wp2
        all_goals try (exfalso; omega)
        go_ret
        exact ⟨ret_int HR.out.symm, HFW.out⟩
      by_cases h2 : gr < 1
      · have e0 : (gr == 0) = true := by rw [beq_iff_eq]; omega
        go_wp2
        all_goals try (exfalso; omega)
        go_ret
        exact ⟨ret_int HR.out.symm, HFW.out⟩
      have h3 : 3600 < gr := by omega
      have e0 : (gr == 0) = false := by rw [beq_eq_false_iff_ne]; omega
      go_wp2
      all_goals try (exfalso; omega)
      go_ret
      exact ⟨ret_int HR.out.symm, HFW.out⟩
    have h1 : ¬ 2 < r := by omega
    have e1 : (gr == 0) = false := by rw [beq_eq_false_iff_ne]; omega
    have h3 : ¬ 3600 < gr := by omega
    have HH4 : Hid (H = if cs.length = 0 then 16 else if 16 < cs.length then 18 else 0) := by rw [Hid, HH3.out, if_neg hrg]
    clear HH3 hrg
    by_cases h0 : cs.length = 0
    · have HR := Lib.hid (HBAD.out 16 (by rw [HH4.out, if_pos h0]) (by decide))
      have e0 : ((cs.length : Int) == 0) = true := by rw [beq_iff_eq]; omega
      clear HSTEP HH4 HBAD HF2E
      go_wp2
      all_goals try (exfalso; omega)
      go_ret
      exact ⟨ret_int HR.out.symm, HFW.out⟩
    have e0 : ((cs.length : Int) == 0) = false := by rw [beq_eq_false_iff_ne]; omega
    by_cases h16 : 16 < cs.length
    · have HR := Lib.hid (HBAD.out 18 (by rw [HH4.out, if_neg h0, if_pos h16]) (by decide))
      clear HSTEP HH4 HBAD HF2E
      go_wp2
      all_goals try (exfalso; omega)
      go_ret
      exact ⟨ret_int HR.out.symm, HFW.out⟩
    have HC : Hid (F = cs2E (cs.take 0) (cs.drop 0)) := by
      have : H = 0 := by rw [HH4.out, if_neg h0, if_neg h16]
      rw [Hid, HF2E.out, if_pos this]
    have HBADF : Hid (F ≠ 0 → E = F) := fun h => by rw [HSTEP.out, if_neg h]
    have HGOOD : Hid (F = 0 → E = chk2F file ((pods2 l).drop (0 + 1))) := fun h => by rw [HSTEP.out, if_pos h]
    clear HH4 HBAD HF2E HSTEP
    go_wp2
    all_goals try (exfalso; omega)
    clear q0 q1 q2 q3 q4 q5 d0 d1 h1 e1 h3 
    generalize w1.drewN nq = V0 at *
    go_loopw [5] (fun a5 wr => ∃ (j : Nat), a5 = .int .i64 (j : Int) ∧ j ≤ cs.length ∧ Hid (F = cs2E (cs.take j) (cs.drop j)) ∧ Hid (Fresh V0 wr)) (fun a5 _ => cs.length - (intOf a5).toNat)
    case atStart => exact ⟨0, rfl, Nat.zero_le _, HC.out, Fresh.refl _⟩
    case round =>
    clear HC
    obtain ⟨j, rfl, hj, HE, HFj⟩ := hrel
    have q5 := cell_of_at (HFj.out.at HZ.out) (i := 5) rfl
    by_cases hjl : ¬ j < cs.length
    · obtain rfl : j = cs.length := by omega
      have HF00 : Hid (F = 0) := by rw [Hid, HE.out, List.drop_of_length_le (Nat.le_refl _)]; rfl
      have HN := Lib.hid (HGOOD.out HF00.out)
      go_wp2
      all_goals try (exfalso; omega)
      go_roundw
      case rel => exact ⟨0 + 1, by simp, by omega, by rw [HAH.out]; exact HN.out, HF2.out.trans HFj.out⟩
      case measure => simp [intOf]; omega
    have hjl : j < cs.length := by omega
    obtain ⟨gg, o2, rfl, hc⟩ := c2_form (HCR.out.move HFj.out) hjl
    have HROWS := Lib.hid hc
    obtain ⟨c0, c1⟩ := hc j hjl
    have HSTEP2 := Lib.hid (HE.out.trans (cs2E_drop hjl))
    have HCE : Hid (c2E (cs.take j) cs[j] = if labB cs[j].name.data.toList = true then (if memN cs[j].name (cs.take j) = true then 8 else if imgB cs[j].image.data.toList = true then 0 else 6) else 13) := rfl
    have HLN := Lib.hid (fun W => rlabel_any cs[j].name W (Nat.le_trans (HCF.out _ (List.getElem_mem hjl)).1 (by omega)))
    have HIM := Lib.hid (fun W => rimage_any cs[j].image W (Nat.le_trans (HCF.out _ (List.getElem_mem hjl)).2 (by omega)))
    have HMEM : Hid (memN cs[j].name (cs.take j) = memN cs[j].name ((cs.take j).drop 0)) := rfl
    have HTAKE : Hid (∀ x (hx : x < j) (hx' : x < cs.length), ∃ h : x < (cs.take j).length, (cs.take j)[x] = cs[x]) := fun x hx hx' => ⟨by rw [List.length_take]; omega, by simp⟩
    clear hc HE
    generalize c2E (cs.take j) cs[j] = G at *
    generalize cs[j] = d at *
    obtain ⟨nm, im⟩ := d
    dsimp only [C2.lies] at *
    have HBADG : Hid (G ≠ 0 → E = G) := fun h => by
      have : F = G := by rw [HSTEP2.out, if_neg h]
      rw [HBADF.out (by rw [this]; exact h), this]
    have j1 : (0 : Int) ≤ (j : Int) := by omega
    have j2 : (j : Int) < (cs.length : Int) := by omega
    cases hlb : labB nm.data.toList with
    | false =>
      rw [hlb] at HLN
      have HR : Hid (E = 13) := by
        have : G = 13 := by rw [HCE.out, if_neg (by rw [hlb]; simp)]
        rw [Hid, HBADG.out (by rw [this]; decide), this]
      clear HCE hlb HBADG HSTEP2 HBADF HGOOD HROWS HTAKE HMEM
      go_wp2_with (fail)
      all_goals try (exfalso; omega)
      refine (HLN.out _).mono ?_
      rintro e w3 ⟨rfl, rfl⟩
      go_wp2
      go_ret
      exact ⟨ret_int HR.out.symm, HFW.out.trans HFj.out⟩
    | true =>
    rw [hlb] at HLN
    have HCE2 : Hid (G = if memN nm (cs.take j) = true then 8 else if imgB im.data.toList = true then 0 else 6) := by rw [Hid, HCE.out, if_pos hlb]
    clear HCE hlb
    go_wp2_with (fail)
    all_goals try (exfalso; omega)
    refine (HLN.out _).mono ?_
    rintro e w3 ⟨rfl, rfl⟩
    clear HLN
    have HQ5 := Lib.hid q5
    have HC0 := Lib.hid c0
    have HC1 := Lib.hid c1
    go_wp2
    clear q5 c0 c1
    go_loopw [6] (fun a6 wx => ∃ (x : Nat), a6 = .int .i64 (x : Int) ∧ x ≤ j ∧ Hid (memN nm (cs.take j) = memN nm ((cs.take j).drop x)) ∧ Hid (Fresh wr wx)) (fun a6 _ => j - (intOf a6).toNat)
    case atStart => exact ⟨0, rfl, Nat.zero_le _, HMEM.out, Fresh.refl _⟩
    case round =>
    clear HMEM
    obtain ⟨x, rfl, hx, HM, HFx⟩ := hrel
    have q5 := HFx.out.cell HQ5.out
    have c0 := HFx.out.cell HC0.out
    have c1 := HFx.out.cell HC1.out
    by_cases hxj : x < j
    · have hxl : x < cs.length := by omega
      have p0 := HFx.out.cell (HROWS.out x hxl).1
      obtain ⟨ht1, ht2⟩ := HTAKE.out x hxj hxl
      have HMS : Hid (memN nm (cs.take j) = (decide (cs[x].name = nm) || memN nm ((cs.take j).drop (x + 1)))) := by
        rw [Hid, HM.out, memN_drop ht1, ht2]
      have HEQ := Lib.hid (eq_toList cs[x].name nm)
      clear HM ht1 ht2
      generalize cs[x].name = yn at *
      have x1 : (0 : Int) ≤ (x : Int) := by omega
      have x2 : (x : Int) < (cs.length : Int) := by omega
      have heq := HEQ.out
      cases hdec : decide (yn = nm) with
      | true =>
        rw [hdec] at heq
        have HR : Hid (E = 8) := by
          have hm : memN nm (cs.take j) = true := by rw [HMS.out, hdec]; rfl
          have : G = 8 := by rw [HCE2.out, if_pos hm]
          rw [Hid, HBADG.out (by rw [this]; decide), this]
        clear HMS HEQ hdec HCE2 HBADG HSTEP2 HBADF HGOOD HROWS HTAKE
        go_wp2_with (fail)
        all_goals try (exfalso; omega)
        go_quiet (fail)
        go_wp2
        go_ret
        exact ⟨ret_int HR.out.symm, ((HFW.out.trans HFj.out).trans HFx.out).trans (fresh_drewN _ _)⟩
      | false =>
        rw [hdec] at heq
        have HN : Hid (memN nm (cs.take j) = memN nm ((cs.take j).drop (x + 1))) := by rw [Hid, HMS.out, hdec]; rfl
        clear HMS HEQ hdec
        go_wp2_with (fail)
        all_goals try (exfalso; omega)
        go_quiet (fail)
        go_wp2
        go_roundw
        case rel => exact ⟨x + 1, by simp, by omega, HN.out, HFx.out.trans (fresh_drewN _ _)⟩
        case measure => simp [intOf]; omega
    · obtain rfl : x = j := by omega
      have HM0 : Hid (memN nm (cs.take x) = false) := by rw [Hid, HM.out, List.drop_of_length_le (by rw [List.length_take]; omega)]; rfl
      have HCE3 : Hid (G = if imgB im.data.toList = true then 0 else 6) := by rw [Hid, HCE2.out, HM0.out, if_neg (by simp)]
      clear HM HM0 HCE2
      cases hib : imgB im.data.toList with
      | false =>
        rw [hib] at HIM
        have HR : Hid (E = 6) := by
          have : G = 6 := by rw [HCE3.out, hib, if_neg (by simp)]
          rw [Hid, HBADG.out (by rw [this]; decide), this]
        clear HCE3 hib HBADG HSTEP2 HBADF HGOOD HROWS HTAKE
        go_wp2_with (fail)
        all_goals try (exfalso; omega)
        refine (HIM.out _).mono ?_
        rintro e w4 ⟨rfl, hf⟩
        have HF4 := Lib.hid (((HFW.out.trans HFj.out).trans HFx.out).trans hf)
        clear hf
        go_wp2
        go_ret
        exact ⟨ret_int HR.out.symm, HF4.out⟩
      | true =>
        rw [hib] at HIM
        have HN : Hid (F = cs2E (cs.take (x + 1)) (cs.drop (x + 1))) := by
          have : G = 0 := by rw [HCE3.out, hib, if_pos rfl]
          rw [Hid, HSTEP2.out, if_pos this]
        clear HCE3 hib HBADG HSTEP2 HROWS HTAKE
        go_wp2_with (fail)
        all_goals try (exfalso; omega)
        refine (HIM.out _).mono ?_
        rintro e w4 ⟨rfl, hf⟩
        have HF4 := Lib.hid ((HFj.out.trans HFx.out).trans hf)
        clear hf
        go_wp2
        go_roundw
        case rel => exact ⟨x + 1, by simp, by omega, HN.out, HF4.out⟩
        case measure => simp [intOf]; omega

  have hk1 : 0 < k := by omega
  have hpv := HPV2.out hk1
  have hw := wrap_pred hk1 (by omega)
  have i1 : (0 : Int) ≤ ((k - 1 : Nat) : Int) := by omega
  have i2 : ((k - 1 : Nat) : Int) < (l.length : Int) := by omega
  clear HPV2 HL1 hk0
  cases hl : (x1 || x2) with
  | true =>
    have HR := Lib.hid (HBAD.out 6 (by rw [HH2.out, HLE.out, hl, if_pos rfl]) (by decide))
    clear HSTEP HH2 HLE hxx HF2E HBAD
    cases x1 <;> cases x2 <;> simp at hl <;> (go_wp2_with (fail); go_quiet (fail); go_wp2; go_ret; exact ⟨ret_int HR.out.symm, HFW.out.trans (fresh_drewN _ _)⟩)
  | false =>
    have HH3 : Hid (H = if 2 < r ∨ gr < 1 ∨ 3600 < gr then 7 else if cs.length = 0 then 16 else if 16 < cs.length then 18 else 0) := by rw [Hid, HH2.out, HLE.out, hl, if_neg (by simp)]
    clear HH2 HLE hxx
    simp only [Bool.or_eq_false_iff] at hl
    obtain ⟨rfl, rfl⟩ := hl
    go_wp2_with (fail)
    go_quiet (fail)
    have HFW := Lib.hid (HFW.out.trans (fresh_drewN w1 nq))
    have HF2 := Lib.hid (HF2.out.trans (fresh_drewN w1 nq))
    have HCR : Hid (RowAt (w1.drewN nq) ca (c2s cs)) := HCR.out.move (fresh_drewN w1 nq)
    have HZ : Hid ((w1.drewN nq).heap[z]? = some (.cells #[.string file, .string name, .string ns, .int .u8 r, .int .u16 gr, .slice ca cs.length cc] 164)) := HZ.out
    by_cases hrg : 2 < r ∨ gr < 1 ∨ 3600 < gr
    · have HR := Lib.hid (HBAD.out 7 (by rw [HH3.out, if_pos hrg]) (by decide))
      clear HSTEP HH3 HBAD HF2E
      by_cases h1 : 2 < r
      · go_wp2
        all_goals try (exfalso; omega)
        go_ret
        exact ⟨ret_int HR.out.symm, HFW.out⟩
      by_cases h2 : gr < 1
      · have e0 : (gr == 0) = true := by rw [beq_iff_eq]; omega
        go_wp2
        all_goals try (exfalso; omega)
        go_ret
        exact ⟨ret_int HR.out.symm, HFW.out⟩
      have h3 : 3600 < gr := by omega
      have e0 : (gr == 0) = false := by rw [beq_eq_false_iff_ne]; omega
      go_wp2
      all_goals try (exfalso; omega)
      go_ret
      exact ⟨ret_int HR.out.symm, HFW.out⟩
    have h1 : ¬ 2 < r := by omega
    have e1 : (gr == 0) = false := by rw [beq_eq_false_iff_ne]; omega
    have h3 : ¬ 3600 < gr := by omega
    have HH4 : Hid (H = if cs.length = 0 then 16 else if 16 < cs.length then 18 else 0) := by rw [Hid, HH3.out, if_neg hrg]
    clear HH3 hrg
    by_cases h0 : cs.length = 0
    · have HR := Lib.hid (HBAD.out 16 (by rw [HH4.out, if_pos h0]) (by decide))
      have e0 : ((cs.length : Int) == 0) = true := by rw [beq_iff_eq]; omega
      clear HSTEP HH4 HBAD HF2E
      go_wp2
      all_goals try (exfalso; omega)
      go_ret
      exact ⟨ret_int HR.out.symm, HFW.out⟩
    have e0 : ((cs.length : Int) == 0) = false := by rw [beq_eq_false_iff_ne]; omega
    by_cases h16 : 16 < cs.length
    · have HR := Lib.hid (HBAD.out 18 (by rw [HH4.out, if_neg h0, if_pos h16]) (by decide))
      clear HSTEP HH4 HBAD HF2E
      go_wp2
      all_goals try (exfalso; omega)
      go_ret
      exact ⟨ret_int HR.out.symm, HFW.out⟩
    have HC : Hid (F = cs2E (cs.take 0) (cs.drop 0)) := by
      have : H = 0 := by rw [HH4.out, if_neg h0, if_neg h16]
      rw [Hid, HF2E.out, if_pos this]
    have HBADF : Hid (F ≠ 0 → E = F) := fun h => by rw [HSTEP.out, if_neg h]
    have HGOOD : Hid (F = 0 → E = chk2F file ((pods2 l).drop (k + 1))) := fun h => by rw [HSTEP.out, if_pos h]
    clear HH4 HBAD HF2E HSTEP
    go_wp2
    all_goals try (exfalso; omega)
    clear q0 q1 q2 q3 q4 q5 d0 d1 h1 e1 h3 hx1 hx2 hpv hw i1 i2
    generalize w1.drewN nq = V0 at *
    go_loopw [5] (fun a5 wr => ∃ (j : Nat), a5 = .int .i64 (j : Int) ∧ j ≤ cs.length ∧ Hid (F = cs2E (cs.take j) (cs.drop j)) ∧ Hid (Fresh V0 wr)) (fun a5 _ => cs.length - (intOf a5).toNat)
    case atStart => exact ⟨0, rfl, Nat.zero_le _, HC.out, Fresh.refl _⟩
    case round =>
    clear HC
    obtain ⟨j, rfl, hj, HE, HFj⟩ := hrel
    have q5 := cell_of_at (HFj.out.at HZ.out) (i := 5) rfl
    by_cases hjl : ¬ j < cs.length
    · obtain rfl : j = cs.length := by omega
      have HF00 : Hid (F = 0) := by rw [Hid, HE.out, List.drop_of_length_le (Nat.le_refl _)]; rfl
      have HN := Lib.hid (HGOOD.out HF00.out)
      go_wp2
      all_goals try (exfalso; omega)
      go_roundw
      case rel => exact ⟨k + 1, by simp, by omega, by rw [HAH.out]; exact HN.out, HF2.out.trans HFj.out⟩
      case measure => simp [intOf]; omega
    have hjl : j < cs.length := by omega
    obtain ⟨gg, o2, rfl, hc⟩ := c2_form (HCR.out.move HFj.out) hjl
    have HROWS := Lib.hid hc
    obtain ⟨c0, c1⟩ := hc j hjl
    have HSTEP2 := Lib.hid (HE.out.trans (cs2E_drop hjl))
    have HCE : Hid (c2E (cs.take j) cs[j] = if labB cs[j].name.data.toList = true then (if memN cs[j].name (cs.take j) = true then 8 else if imgB cs[j].image.data.toList = true then 0 else 6) else 13) := rfl
    have HLN := Lib.hid (fun W => rlabel_any cs[j].name W (Nat.le_trans (HCF.out _ (List.getElem_mem hjl)).1 (by omega)))
    have HIM := Lib.hid (fun W => rimage_any cs[j].image W (Nat.le_trans (HCF.out _ (List.getElem_mem hjl)).2 (by omega)))
    have HMEM : Hid (memN cs[j].name (cs.take j) = memN cs[j].name ((cs.take j).drop 0)) := rfl
    have HTAKE : Hid (∀ x (hx : x < j) (hx' : x < cs.length), ∃ h : x < (cs.take j).length, (cs.take j)[x] = cs[x]) := fun x hx hx' => ⟨by rw [List.length_take]; omega, by simp⟩
    clear hc HE
    generalize c2E (cs.take j) cs[j] = G at *
    generalize cs[j] = d at *
    obtain ⟨nm, im⟩ := d
    dsimp only [C2.lies] at *
    have HBADG : Hid (G ≠ 0 → E = G) := fun h => by
      have : F = G := by rw [HSTEP2.out, if_neg h]
      rw [HBADF.out (by rw [this]; exact h), this]
    have j1 : (0 : Int) ≤ (j : Int) := by omega
    have j2 : (j : Int) < (cs.length : Int) := by omega
    cases hlb : labB nm.data.toList with
    | false =>
      rw [hlb] at HLN
      have HR : Hid (E = 13) := by
        have : G = 13 := by rw [HCE.out, if_neg (by rw [hlb]; simp)]
        rw [Hid, HBADG.out (by rw [this]; decide), this]
      clear HCE hlb HBADG HSTEP2 HBADF HGOOD HROWS HTAKE HMEM
      go_wp2_with (fail)
      all_goals try (exfalso; omega)
      refine (HLN.out _).mono ?_
      rintro e w3 ⟨rfl, rfl⟩
      go_wp2
      go_ret
      exact ⟨ret_int HR.out.symm, HFW.out.trans HFj.out⟩
    | true =>
    rw [hlb] at HLN
    have HCE2 : Hid (G = if memN nm (cs.take j) = true then 8 else if imgB im.data.toList = true then 0 else 6) := by rw [Hid, HCE.out, if_pos hlb]
    clear HCE hlb
    go_wp2_with (fail)
    all_goals try (exfalso; omega)
    refine (HLN.out _).mono ?_
    rintro e w3 ⟨rfl, rfl⟩
    clear HLN
    have HQ5 := Lib.hid q5
    have HC0 := Lib.hid c0
    have HC1 := Lib.hid c1
    go_wp2
    clear q5 c0 c1
    go_loopw [6] (fun a6 wx => ∃ (x : Nat), a6 = .int .i64 (x : Int) ∧ x ≤ j ∧ Hid (memN nm (cs.take j) = memN nm ((cs.take j).drop x)) ∧ Hid (Fresh wr wx)) (fun a6 _ => j - (intOf a6).toNat)
    case atStart => exact ⟨0, rfl, Nat.zero_le _, HMEM.out, Fresh.refl _⟩
    case round =>
    clear HMEM
    obtain ⟨x, rfl, hx, HM, HFx⟩ := hrel
    have q5 := HFx.out.cell HQ5.out
    have c0 := HFx.out.cell HC0.out
    have c1 := HFx.out.cell HC1.out
    by_cases hxj : x < j
    · have hxl : x < cs.length := by omega
      have p0 := HFx.out.cell (HROWS.out x hxl).1
      obtain ⟨ht1, ht2⟩ := HTAKE.out x hxj hxl
      have HMS : Hid (memN nm (cs.take j) = (decide (cs[x].name = nm) || memN nm ((cs.take j).drop (x + 1)))) := by
        rw [Hid, HM.out, memN_drop ht1, ht2]
      have HEQ := Lib.hid (eq_toList cs[x].name nm)
      clear HM ht1 ht2
      generalize cs[x].name = yn at *
      have x1 : (0 : Int) ≤ (x : Int) := by omega
      have x2 : (x : Int) < (cs.length : Int) := by omega
      have heq := HEQ.out
      cases hdec : decide (yn = nm) with
      | true =>
        rw [hdec] at heq
        have HR : Hid (E = 8) := by
          have hm : memN nm (cs.take j) = true := by rw [HMS.out, hdec]; rfl
          have : G = 8 := by rw [HCE2.out, if_pos hm]
          rw [Hid, HBADG.out (by rw [this]; decide), this]
        clear HMS HEQ hdec HCE2 HBADG HSTEP2 HBADF HGOOD HROWS HTAKE
        go_wp2_with (fail)
        all_goals try (exfalso; omega)
        go_quiet (fail)
        go_wp2
        go_ret
        exact ⟨ret_int HR.out.symm, ((HFW.out.trans HFj.out).trans HFx.out).trans (fresh_drewN _ _)⟩
      | false =>
        rw [hdec] at heq
        have HN : Hid (memN nm (cs.take j) = memN nm ((cs.take j).drop (x + 1))) := by rw [Hid, HMS.out, hdec]; rfl
        clear HMS HEQ hdec
        go_wp2_with (fail)
        all_goals try (exfalso; omega)
        go_quiet (fail)
        go_wp2
        go_roundw
        case rel => exact ⟨x + 1, by simp, by omega, HN.out, HFx.out.trans (fresh_drewN _ _)⟩
        case measure => simp [intOf]; omega
    · obtain rfl : x = j := by omega
      have HM0 : Hid (memN nm (cs.take x) = false) := by rw [Hid, HM.out, List.drop_of_length_le (by rw [List.length_take]; omega)]; rfl
      have HCE3 : Hid (G = if imgB im.data.toList = true then 0 else 6) := by rw [Hid, HCE2.out, HM0.out, if_neg (by simp)]
      clear HM HM0 HCE2
      cases hib : imgB im.data.toList with
      | false =>
        rw [hib] at HIM
        have HR : Hid (E = 6) := by
          have : G = 6 := by rw [HCE3.out, hib, if_neg (by simp)]
          rw [Hid, HBADG.out (by rw [this]; decide), this]
        clear HCE3 hib HBADG HSTEP2 HBADF HGOOD HROWS HTAKE
        go_wp2_with (fail)
        all_goals try (exfalso; omega)
        refine (HIM.out _).mono ?_
        rintro e w4 ⟨rfl, hf⟩
        have HF4 := Lib.hid (((HFW.out.trans HFj.out).trans HFx.out).trans hf)
        clear hf
        go_wp2
        go_ret
        exact ⟨ret_int HR.out.symm, HF4.out⟩
      | true =>
        rw [hib] at HIM
        have HN : Hid (F = cs2E (cs.take (x + 1)) (cs.drop (x + 1))) := by
          have : G = 0 := by rw [HCE3.out, hib, if_pos rfl]
          rw [Hid, HSTEP2.out, if_pos this]
        clear HCE3 hib HBADG HSTEP2 HROWS HTAKE
        go_wp2_with (fail)
        all_goals try (exfalso; omega)
        refine (HIM.out _).mono ?_
        rintro e w4 ⟨rfl, hf⟩
        have HF4 := Lib.hid ((HFj.out.trans HFx.out).trans hf)
        clear hf
        go_wp2
        go_roundw
        case rel => exact ⟨x + 1, by simp, by omega, HN.out, HF4.out⟩
        case measure => simp [intOf]; omega

end Go.Proofs.YtldncgelghcjeaaGreatDoor.K
namespace Go.Proofs.YtldncgelghcjeaaGreatDoor.K
open Go.ChangeShapes Go.WideShapes Go.ChangeAt Go.RowKit
set_option maxRecDepth 100000

/-! ### few pods, and short texts -/
def P1.w (p : P1) : Nat := 1 + p.file.size + p.name.size + p.image.size
def smA : Nat → List P1 → Bool
  | _, [] => true
  | n, p :: l => if 20000 < n + p.w then false else smA (n + p.w) l
theorem smA_drop {l : List P1} {k : Nat} (h : k < l.length) (n : Nat) : smA n (l.drop k) = if 20000 < n + l[k].w then false else smA (n + l[k].w) (l.drop (k + 1)) := by
  rw [List.drop_eq_getElem_cons h, smA]
theorem smA_fit : ∀ (l : List P1) (n : Nat), smA n l = true → n ≤ 20000 → l.length + n ≤ 20000 ∧ ∀ p ∈ l, p.file.size ≤ 20000 ∧ p.name.size ≤ 20000 ∧ p.image.size ≤ 20000
  | [], n, _, hn => ⟨by simpa using hn, by simp⟩
  | p :: l, n, h, hn => by
    rw [smA] at h
    split at h
    · simp at h
    · rename_i h1
      obtain ⟨h2, h3⟩ := smA_fit l _ h (by omega)
      unfold P1.w at h1 h2
      refine ⟨by rw [List.length_cons]; omega, fun q hq => ?_⟩
      rcases List.mem_cons.1 hq with rfl | hq
      · omega
      · exact h3 q hq
set_option maxHeartbeats 4000000 in
theorem small1_any (seq : Int) (a : Option Addr) (l : List P1) (c : Nat) (w : World) (h : RowAt w a (p1s l)) (hf : ∀ p ∈ l, p.Fit 140737488355328) (hl : l.length ≤ maxLen) :
    Calls Tryz.prog 24 #[st1 seq a l.length c] w fun e w' => e = .returned (.bool (smA 0 l)) ∧ Fresh w w' := by
  unfold maxLen at hl
  have HROW := Lib.hid h
  have HFT := Lib.hid hf
  have HF0 := Lib.hid ((Fresh.refl w).alloc (.cells #[.int .u32 seq, .slice a l.length c] 63))
  have HC : Hid (smA 0 l = smA 0 (l.drop 0)) := rfl
  dsimp only [st1]
  clear h hf
  generalize smA 0 l = E at *
  go_enter Tryz.func24, Tryz.ntmps24
  go_wp2
  generalize w.alloc (.cells #[.int .u32 seq, .slice a l.length c] 63) = W0 at *
  go_loopw [3, 9] (fun a3 a9 wr => ∃ (k n : Nat), a9 = .int .i64 (k : Int) ∧ a3 = .int .i64 (n : Int) ∧ k ≤ l.length ∧ n ≤ 20000 ∧ Hid (E = smA n (l.drop k)) ∧ Hid (Fresh W0 wr)) (fun _ a9 _ => l.length - (intOf a9).toNat)
  case atStart => exact ⟨0, 0, rfl, rfl, Nat.zero_le _, Nat.zero_le _, HC.out, Fresh.refl _⟩
  case round =>
    obtain ⟨k, n, rfl, rfl, hk, hn, HE, HF⟩ := hrel
    by_cases hlt : k < l.length
    · obtain ⟨g, o1, rfl, hc⟩ := p1_form ((HROW.out.move HF0.out).move HF.out) hlt
      obtain ⟨c0, c1, c2, c3⟩ := hc k hlt
      have hfi := HFT.out _ (List.getElem_mem hlt)
      have HSTEP := Lib.hid (HE.out.trans (smA_drop hlt n))
      clear hc
      generalize l[k] = p at *
      obtain ⟨file, name, image, r⟩ := p
      have y1 : file.size ≤ 140737488355328 := hfi.file
      have y2 : name.size ≤ 140737488355328 := hfi.name
      have y3 : image.size ≤ 140737488355328 := hfi.image
      have HW : Hid (P1.w ⟨file, name, image, r⟩ = 1 + file.size + name.size + image.size) := rfl
      have hadd : (n : Int) + (1 + (file.size : Int) + (name.size : Int) + (image.size : Int)) = ((n + (1 + file.size + name.size + image.size) : Nat) : Int) := by omega
      rw [HW.out] at HSTEP
      dsimp only at *
      clear hfi HW
      have HF1 := Lib.hid ((Fresh.refl wr).alloc (.cells #[.string file, .string name, .string image, .int .u8 r] 154))
      have hs2 : n + (1 + file.size + name.size + image.size) ≤ 562949953450000 := by omega
      generalize n + (1 + file.size + name.size + image.size) = s2 at *
      by_cases h2 : 20000 < s2
      · have HR : Hid (E = false) := by rw [Hid, HSTEP.out, if_pos h2]
        clear HSTEP
        go_wp2
        all_goals try (exfalso; omega)
        go_ret
        exact ⟨ret_bool HR.out.symm, (HF0.out.trans HF.out).trans HF1.out⟩
      · have HN : Hid (E = smA s2 (l.drop (k + 1))) := by rw [Hid, HSTEP.out, if_neg h2]
        clear HSTEP
        go_wp2
        all_goals try (exfalso; omega)
        go_roundw
        case rel => exact ⟨k + 1, s2, by simp, rfl, by omega, by omega, HN.out, HF.out.trans HF1.out⟩
        case measure => simp [intOf]; omega
    · obtain rfl : k = l.length := by omega
      have HR : Hid (E = true) := by rw [Hid, HE.out, List.drop_of_length_le (Nat.le_refl _)]; rfl
      go_wp2
      all_goals try (exfalso; omega)
      go_ret
      exact ⟨ret_bool HR.out.symm, HF0.out.trans HF.out⟩
end Go.Proofs.YtldncgelghcjeaaGreatDoor.K
