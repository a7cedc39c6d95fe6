/-
  What is wrong with a state of version 2, by the document (printed by genrcheck2.py.txt).
  The boxes of the document's Decode for version 2.
  A state of version 2, as the document has it: the same texts and numbers, in rows of its own.
  Few pods, and short texts: what bosunlaw18.Small says of any state that came in, its sum as the machine has it.
  What a strings.Builder does when a text is written leaves what is of another type.
  The bytes of a pod of version 2, by package cktwo.
  What package cktwo's Encode returns.
  What the laws of version 2 use: awake.
-/
import Derived.Test.YtphjhlnjfcfdcaaTwo01
import Derived.Test.YtphjhlnjfcfdcaaKRcheck
import Derived.Test.YtphjhlnjfcfdcaaSDns2
import Derived.Test.YtphjhlnjfcfdcaaKRdec
import Derived.Test.YtphjhlnjfcfdcaaKEnc
import Derived.Test.YtphjhlnjfcfdcaaKEncode
import Derived.Test.YtphjhlnjfcfdcaaKLaw
namespace Go.Proofs.Ytphjhlnjfcfdcaa
open Go.ChangeShapes Go.WideShapes Go.ChangeAt Go.RowKit
set_option maxRecDepth 100000

theorem memN_drop {s : ByteArray} {l : List C2} {x : Nat} (h : x < l.length) : memN s (l.drop x) = (decide (l[x].name = s) || memN s (l.drop (x + 1))) := by
  rw [List.drop_eq_getElem_cons h]; rfl
theorem eq_toList (a b : ByteArray) : (a.toList == b.toList) = decide (a = b) := by
  rw [Lib.toList_data, Lib.toList_data]
  by_cases h : a = b
  · subst h; simp
  · rw [decide_eq_false h]
    rw [beq_eq_false_iff_ne]
    intro e
    exact h (ByteArray.ext (Array.toList_inj.1 e))
set_option maxHeartbeats 16000000 in
theorem rcheck2_any (seq : Int) (a : Option Addr) (l : List M2) (c : Nat) (w : World) (h : Row2 w a l) (hf : ∀ m ∈ l, m.p.Fit 20000) (hl : l.length ≤ 4000000) :
    Calls Try.prog 25 #[st2 seq a l.length c] w fun e w' => e = .returned (.int .i64 (chk2 (pods2 l))) ∧ Fresh w w' := by
  have HROW := Lib.hid h
  have HFT := Lib.hid hf
  have hpl : (pods2 l).length = l.length := by simp [pods2]
  have HC : Hid (chk2 (pods2 l) = if 1024 < l.length then 18 else chk2F (ahead2 (pods2 l) 0) ((pods2 l).drop 0)) := by rw [Hid, chk2, hpl]; rfl
  have HA := Lib.hid (at_new w (.cells #[.int .u64 seq, .slice a l.length c] 53))
  have HF0 := Lib.hid ((Fresh.refl w).alloc (.cells #[.int .u64 seq, .slice a l.length c] 53))
  dsimp only [st2]
  clear h hf
  generalize chk2 (pods2 l) = E at *
  by_cases hm : 1024 < l.length
  · have HR : Hid (E = 18) := by rw [Hid, HC.out, if_pos hm]
    clear HC
    go_enter Try.func25, Try.ntmps25
    go_wp2
    all_goals try (exfalso; omega)
    go_ret
    exact ⟨ret_int HR.out.symm, HF0.out⟩
  have HC2 : Hid (E = chk2F (ahead2 (pods2 l) 0) ((pods2 l).drop 0)) := by rw [Hid, HC.out, if_neg hm]
  clear HC
  go_enter Try.func25, Try.ntmps25
  go_wp2
  all_goals try (exfalso; omega)
  generalize w.alloc (.cells #[.int .u64 seq, .slice a l.length c] 53) = W0 at *
  obtain ⟨b, hb⟩ : ∃ b, b = w.heap.size := ⟨_, rfl⟩
  rw [← hb] at HA ⊢
  clear hb
  go_loopw [3] (fun a3 wr => ∃ (k : Nat), a3 = .int .i64 (k : Int) ∧ k ≤ l.length ∧ Hid (E = chk2F (ahead2 (pods2 l) k) ((pods2 l).drop k)) ∧ Hid (Fresh W0 wr)) (fun a3 _ => l.length - (intOf a3).toNat)
  case atStart => exact ⟨0, rfl, Nat.zero_le _, HC2.out, Fresh.refl _⟩
  case round =>
  obtain ⟨k, rfl, hk, HE, HF⟩ := hrel
  obtain ⟨b0, b1, _⟩ := st2_box (HF.out.at HA.out)
  by_cases hlt : ¬ k < l.length
  · obtain rfl : k = l.length := by omega
    have HR : Hid (E = 0) := by rw [Hid, HE.out, List.drop_of_length_le (by omega)]; rfl
    go_wp2
    all_goals try (exfalso; omega)
    go_ret
    exact ⟨ret_int HR.out.symm, HF0.out.trans HF.out⟩
  have hlt : k < l.length := by omega
  have hRw := (HROW.out.move HF0.out).move HF.out
  obtain ⟨g, o1, rfl, hc⟩ := m2_form hRw.row hlt
  obtain ⟨c0, c1, c2, c3, c4, c5⟩ := hc k hlt
  have hkp : k < (pods2 l).length := by omega
  have hpk : ∀ (j : Nat) (hj : j < l.length) (hj' : j < (pods2 l).length), (pods2 l)[j] = l[j].p := fun j _ _ => by simp [pods2]
  have HPV : Hid (∀ (hk0 : 0 < k), wr.cell? ⟨g, o1 + (k - 1) * 6, none⟩ = some (.string (ahead2 (pods2 l) k))) := fun hk0 => by
    have h1 := (hc (k - 1) (by omega)).1
    have h2 := ahead2_succ (pods2 l) (k - 1) (by omega)
    rw [Nat.sub_add_cancel hk0, hpk (k - 1) (by omega)] at h2
    rw [h2]; exact h1
  have HFI := Lib.hid (HFT.out _ (List.getElem_mem hlt))
  have HIN := Lib.hid (hRw.ins _ (List.getElem_mem hlt))
  have HSTEP : Hid (E = if f2E l[k].p (ahead2 (pods2 l) k) = 0 then chk2F l[k].p.file ((pods2 l).drop (k + 1)) else f2E l[k].p (ahead2 (pods2 l) k)) := by
    have := HE.out.trans (chk2F_drop hkp _)
    rw [hpk k hlt hkp] at this; exact this
  have HAH : Hid (ahead2 (pods2 l) (k + 1) = l[k].p.file) := by have := ahead2_succ (pods2 l) k hkp; rw [hpk k hlt hkp] at this; exact this
  have HA0 : Hid (k = 0 → ahead2 (pods2 l) k = ⟨#[]⟩) := fun h => by rw [h]; rfl
  clear hc hRw hkp hpk HE
  generalize ahead2 (pods2 l) k = ah at *
  generalize l[k] = m at *
  obtain ⟨⟨file, name, ns, r, gr, cs⟩, ca, cc⟩ := m
  have HRF := Lib.hid (fun W => rfile_any file W (by have := HFI.out.file; unfold maxLen; dsimp only at this; omega))
  have HRN := Lib.hid (fun W => rname_tx name W (Nat.le_trans HFI.out.name (by omega)))
  have HRL := Lib.hid (fun W => rlabel_any ns W (Nat.le_trans HFI.out.ns (by omega)))
  have hr0 : 0 ≤ r := HFI.out.r0
  have hg0 : 0 ≤ gr := HFI.out.g0
  have HCF : Hid (∀ x ∈ cs, x.name.size ≤ 20000 ∧ x.image.size ≤ 20000) := HFI.out.cs
  have HCR : Hid (RowAt wr ca (c2s cs)) := HIN.out.1
  have HF2E : Hid (f2E ⟨file, name, ns, r, gr, cs⟩ ah = if head2E ⟨file, name, ns, r, gr, cs⟩ ah = 0 then cs2E (cs.take 0) (cs.drop 0) else head2E ⟨file, name, ns, r, gr, cs⟩ ah) := rfl
  have HH : Hid (head2E ⟨file, name, ns, r, gr, cs⟩ ah = if fileB file = true ∧ nameB name.data.toList = true ∧ labB ns.data.toList = true then
    (if leS file ah = true then 6 else if 2 < r ∨ gr < 1 ∨ 3600 < gr then 7 else if cs.length = 0 then 16 else if 16 < cs.length then 18 else 0) else 13) := rfl
  have HLE : Hid (leS file ah = (Op.bytesLess file.toList ah.toList || file.toList == ah.toList)) := rfl
  have HL0 : Hid (fileB file = true → k = 0 → leS file ah = false) := fun h1 h2 => by
    rw [HA0.out h2]; exact leS_empty (file_one h1).1
  dsimp only at *
  clear HFI HIN HA0
  generalize f2E ⟨file, name, ns, r, gr, cs⟩ ah = F at *
  generalize head2E ⟨file, name, ns, r, gr, cs⟩ ah = H at *
  have HP := Lib.hid (at_new wr (.cells #[.string file, .string name, .string ns, .int .u8 r, .int .u16 gr, .slice ca cs.length cc] 103))
  have HF1 := Lib.hid ((Fresh.refl wr).alloc (.cells #[.string file, .string name, .string ns, .int .u8 r, .int .u16 gr, .slice ca cs.length cc] 103))
  have HBAD : Hid (∀ j : Int, H = j → j ≠ 0 → E = j) := fun j h h0 => by rw [HSTEP.out, HF2E.out, h, if_neg h0, if_neg h0]
  have H13 : Hid (¬ (fileB file = true ∧ nameB name.data.toList = true ∧ labB ns.data.toList = true) → E = 13) := fun h => HBAD.out 13 (by rw [HH.out, if_neg h]) (by decide)
  cases hf : fileB file with
  | false =>
    rw [hf] at HRF
    have HR := Lib.hid (H13.out (by rw [hf]; simp))
    clear HSTEP HH H13 HBAD HL0 HLE HAH HPV hf HF2E
    go_wp2_with (fail)
    all_goals try (exfalso; omega)
    refine (HRF.out _).mono ?_
    rintro e w1 ⟨rfl, rfl⟩
    go_wp2
    go_ret
    exact ⟨ret_int HR.out.symm, (HF0.out.trans HF.out).trans HF1.out⟩
  | true =>
  rw [hf] at HRF
  cases hn : nameB name.data.toList with
  | false =>
    rw [hn] at HRN
    have HR := Lib.hid (H13.out (by rw [hn]; simp))
    clear HSTEP HH H13 HBAD HL0 HLE HAH HPV hf hn HF2E
    go_wp2_with (fail)
    all_goals try (exfalso; omega)
    refine (HRF.out _).mono ?_
    rintro e w1 ⟨rfl, rfl⟩
    go_wp2_with (fail)
    refine (HRN.out _).mono ?_
    rintro e w1 ⟨rfl, hf⟩
    have HF2 := Lib.hid (((HF0.out.trans HF.out).trans HF1.out).trans hf)
    clear hf
    go_wp2
    go_ret
    exact ⟨ret_int HR.out.symm, HF2.out⟩
  | true =>
  rw [hn] at HRN
  cases hs : labB ns.data.toList with
  | false =>
    rw [hs] at HRL
    have HR := Lib.hid (H13.out (by rw [hs]; simp))
    clear HSTEP HH H13 HBAD HL0 HLE HAH HPV hf hn hs HF2E
    go_wp2_with (fail)
    all_goals try (exfalso; omega)
    refine (HRF.out _).mono ?_
    rintro e w1 ⟨rfl, rfl⟩
    go_wp2_with (fail)
    refine (HRN.out _).mono ?_
    rintro e w1 ⟨rfl, hf⟩
    have q2 := cell_of_at (hf.at HP.out) (i := 2) rfl
    have HF2 := Lib.hid (((HF0.out.trans HF.out).trans HF1.out).trans hf)
    clear hf
    go_wp2_with (fail)
    refine (HRL.out _).mono ?_
    rintro e w2 ⟨rfl, rfl⟩
    go_wp2
    go_ret
    exact ⟨ret_int HR.out.symm, HF2.out⟩
  | true =>
  rw [hs] at HRL
  have HH2 : Hid (H = if leS file ah = true then 6 else if 2 < r ∨ gr < 1 ∨ 3600 < gr then 7 else if cs.length = 0 then 16 else if 16 < cs.length then 18 else 0) := by rw [Hid, HH.out, if_pos ⟨hf, hn, hs⟩]
  have HL1 := Lib.hid (HL0.out hf)
  clear HH H13 HL0 hf hn hs
  go_wp2_with (fail)
  all_goals try (exfalso; omega)
  refine (HRF.out _).mono ?_
  rintro e w1 ⟨rfl, rfl⟩
  go_wp2_with (fail)
  refine (HRN.out _).mono ?_
  rintro e w1 ⟨rfl, hf⟩
  obtain ⟨⟨q0, q1, q2, q3, q4, q5⟩, _⟩ := m2_box (m := ⟨⟨file, name, ns, r, gr, cs⟩, ca, cc⟩) (hf.at HP.out)
  obtain ⟨d0, d1, _⟩ := st2_box ((HF1.out.trans hf).at (HF.out.at HA.out))
  have hF2 := (HF1.out.trans hf)
  have HF2 := Lib.hid ((HF.out.trans HF1.out).trans hf)
  have HPV2 := Lib.hid (fun (hk0 : 0 < k) => hF2.cell (HPV.out hk0))
  have HCR := Lib.hid (HCR.out.move hF2)
  have HZ := Lib.hid (hf.at HP.out)
  dsimp only at q0 q1 q2 q3 q4 q5
  clear hf HP HF1 HPV b0 b1 c0 c1 c2 c3 c4 c5 hF2
  obtain ⟨z, hz⟩ : ∃ z, z = wr.heap.size := ⟨_, rfl⟩
  rw [← hz] at q0 q1 q2 q3 q4 q5 HZ ⊢
  clear hz
  have HFW := Lib.hid (HF0.out.trans HF2.out)
  go_wp2_with (fail)
  refine (HRL.out _).mono ?_
  rintro e w2 ⟨rfl, rfl⟩
  clear HRF HRN HRL
  have hxx := HLE.out
  generalize hx1 : Op.bytesLess file.toList ah.toList = x1 at *
  generalize hx2 : (file.toList == ah.toList) = x2 at *
  generalize leS file ah = L at *
  by_cases hk0 : k = 0
  · subst hk0
    obtain rfl := HL1.out rfl
    have HH3 : Hid (H = if 2 < r ∨ gr < 1 ∨ 3600 < gr then 7 else if cs.length = 0 then 16 else if 16 < cs.length then 18 else 0) := by rw [Hid, HH2.out, if_neg (by simp)]
    clear HH2 HL1 HLE HPV2 hxx hx1 hx2
    go_wp2_with (fail)
    go_quiet (fail)
    have HFW := Lib.hid (HFW.out.trans (fresh_drewN w1 nq))
    have HF2 := Lib.hid (HF2.out.trans (fresh_drewN w1 nq))
    have HCR : Hid (RowAt (w1.drewN nq) ca (c2s cs)) := HCR.out.move (fresh_drewN w1 nq)
    have HZ : Hid ((w1.drewN nq).heap[z]? = some (.cells #[.string file, .string name, .string ns, .int .u8 r, .int .u16 gr, .slice ca cs.length cc] 103)) := HZ.out
    by_cases hrg : 2 < r ∨ gr < 1 ∨ 3600 < gr
    · have HR := Lib.hid (HBAD.out 7 (by rw [HH3.out, if_pos hrg]) (by decide))
      clear HSTEP HH3 HBAD HF2E
      by_cases h1 : 2 < r
      · go_wp2
        all_goals try (exfalso; omega)
        go_ret
        exact ⟨ret_int HR.out.symm, HFW.out⟩
      by_cases h2 : gr < 1
      · have e0 : (gr == 0) = true := by rw [beq_iff_eq]; omega
        go_wp2
        all_goals try (exfalso; omega)
        go_ret
        exact ⟨ret_int HR.out.symm, HFW.out⟩
      have h3 : 3600 < gr := by omega
      have e0 : (gr == 0) = false := by rw [beq_eq_false_iff_ne]; omega
      go_wp2
      all_goals try (exfalso; omega)
      go_ret
      exact ⟨ret_int HR.out.symm, HFW.out⟩
    have h1 : ¬ 2 < r := by omega
    have e1 : (gr == 0) = false := by rw [beq_eq_false_iff_ne]; omega
    have h3 : ¬ 3600 < gr := by omega
    have HH4 : Hid (H = if cs.length = 0 then 16 else if 16 < cs.length then 18 else 0) := by rw [Hid, HH3.out, if_neg hrg]
    clear HH3 hrg
    by_cases h0 : cs.length = 0
    · have HR := Lib.hid (HBAD.out 16 (by rw [HH4.out, if_pos h0]) (by decide))
      have e0 : ((cs.length : Int) == 0) = true := by rw [beq_iff_eq]; omega
      clear HSTEP HH4 HBAD HF2E
      go_wp2
      all_goals try (exfalso; omega)
      go_ret
      exact ⟨ret_int HR.out.symm, HFW.out⟩
    have e0 : ((cs.length : Int) == 0) = false := by rw [beq_eq_false_iff_ne]; omega
    by_cases h16 : 16 < cs.length
    · have HR := Lib.hid (HBAD.out 18 (by rw [HH4.out, if_neg h0, if_pos h16]) (by decide))
      clear HSTEP HH4 HBAD HF2E
      go_wp2
      all_goals try (exfalso; omega)
      go_ret
      exact ⟨ret_int HR.out.symm, HFW.out⟩
    have HC : Hid (F = cs2E (cs.take 0) (cs.drop 0)) := by
      have : H = 0 := by rw [HH4.out, if_neg h0, if_neg h16]
      rw [Hid, HF2E.out, if_pos this]
    have HBADF : Hid (F ≠ 0 → E = F) := fun h => by rw [HSTEP.out, if_neg h]
    have HGOOD : Hid (F = 0 → E = chk2F file ((pods2 l).drop (0 + 1))) := fun h => by rw [HSTEP.out, if_pos h]
    clear HH4 HBAD HF2E HSTEP
    go_wp2
    all_goals try (exfalso; omega)
    clear q0 q1 q2 q3 q4 q5 d0 d1 h1 e1 h3 
    generalize w1.drewN nq = V0 at *
    go_loopw [5] (fun a5 wr => ∃ (j : Nat), a5 = .int .i64 (j : Int) ∧ j ≤ cs.length ∧ Hid (F = cs2E (cs.take j) (cs.drop j)) ∧ Hid (Fresh V0 wr)) (fun a5 _ => cs.length - (intOf a5).toNat)
    case atStart => exact ⟨0, rfl, Nat.zero_le _, HC.out, Fresh.refl _⟩
    case round =>
    clear HC
    obtain ⟨j, rfl, hj, HE, HFj⟩ := hrel
    have q5 := cell_of_at (HFj.out.at HZ.out) (i := 5) rfl
    by_cases hjl : ¬ j < cs.length
    · obtain rfl : j = cs.length := by omega
      have HF00 : Hid (F = 0) := by rw [Hid, HE.out, List.drop_of_length_le (Nat.le_refl _)]; rfl
      have HN := Lib.hid (HGOOD.out HF00.out)
      go_wp2
      all_goals try (exfalso; omega)
      go_roundw
      case rel => exact ⟨0 + 1, by simp, by omega, by rw [HAH.out]; exact HN.out, HF2.out.trans HFj.out⟩
      case measure => simp [intOf]; omega
    have hjl : j < cs.length := by omega
    obtain ⟨gg, o2, rfl, hc⟩ := c2_form (HCR.out.move HFj.out) hjl
    have HROWS := Lib.hid hc
    obtain ⟨c0, c1⟩ := hc j hjl
    have HSTEP2 := Lib.hid (HE.out.trans (cs2E_drop hjl))
    have HCE : Hid (c2E (cs.take j) cs[j] = if labB cs[j].name.data.toList = true then (if memN cs[j].name (cs.take j) = true then 8 else if imgB cs[j].image.data.toList = true then 0 else 6) else 13) := rfl
    have HLN := Lib.hid (fun W => rlabel_any cs[j].name W (Nat.le_trans (HCF.out _ (List.getElem_mem hjl)).1 (by omega)))
    have HIM := Lib.hid (fun W => rimage_any cs[j].image W (Nat.le_trans (HCF.out _ (List.getElem_mem hjl)).2 (by omega)))
    have HMEM : Hid (memN cs[j].name (cs.take j) = memN cs[j].name ((cs.take j).drop 0)) := rfl
    have HTAKE : Hid (∀ x (hx : x < j) (hx' : x < cs.length), ∃ h : x < (cs.take j).length, (cs.take j)[x] = cs[x]) := fun x hx hx' => ⟨by rw [List.length_take]; omega, by simp⟩
    clear hc HE
    generalize c2E (cs.take j) cs[j] = G at *
    generalize cs[j] = d at *
    obtain ⟨nm, im⟩ := d
    dsimp only [C2.lies] at *
    have HBADG : Hid (G ≠ 0 → E = G) := fun h => by
      have : F = G := by rw [HSTEP2.out, if_neg h]
      rw [HBADF.out (by rw [this]; exact h), this]
    have j1 : (0 : Int) ≤ (j : Int) := by omega
    have j2 : (j : Int) < (cs.length : Int) := by omega
    cases hlb : labB nm.data.toList with
    | false =>
      rw [hlb] at HLN
      have HR : Hid (E = 13) := by
        have : G = 13 := by rw [HCE.out, if_neg (by rw [hlb]; simp)]
        rw [Hid, HBADG.out (by rw [this]; decide), this]
      clear HCE hlb HBADG HSTEP2 HBADF HGOOD HROWS HTAKE HMEM
      go_wp2_with (fail)
      all_goals try (exfalso; omega)
      refine (HLN.out _).mono ?_
      rintro e w3 ⟨rfl, rfl⟩
      go_wp2
      go_ret
      exact ⟨ret_int HR.out.symm, HFW.out.trans HFj.out⟩
    | true =>
    rw [hlb] at HLN
    have HCE2 : Hid (G = if memN nm (cs.take j) = true then 8 else if imgB im.data.toList = true then 0 else 6) := by rw [Hid, HCE.out, if_pos hlb]
    clear HCE hlb
    go_wp2_with (fail)
    all_goals try (exfalso; omega)
    refine (HLN.out _).mono ?_
    rintro e w3 ⟨rfl, rfl⟩
    clear HLN
    have HQ5 := Lib.hid q5
    have HC0 := Lib.hid c0
    have HC1 := Lib.hid c1
    go_wp2
    clear q5 c0 c1
    go_loopw [6] (fun a6 wx => ∃ (x : Nat), a6 = .int .i64 (x : Int) ∧ x ≤ j ∧ Hid (memN nm (cs.take j) = memN nm ((cs.take j).drop x)) ∧ Hid (Fresh wr wx)) (fun a6 _ => j - (intOf a6).toNat)
    case atStart => exact ⟨0, rfl, Nat.zero_le _, HMEM.out, Fresh.refl _⟩
    case round =>
    clear HMEM
    obtain ⟨x, rfl, hx, HM, HFx⟩ := hrel
    have q5 := HFx.out.cell HQ5.out
    have c0 := HFx.out.cell HC0.out
    have c1 := HFx.out.cell HC1.out
    by_cases hxj : x < j
    · have hxl : x < cs.length := by omega
      have p0 := HFx.out.cell (HROWS.out x hxl).1
      obtain ⟨ht1, ht2⟩ := HTAKE.out x hxj hxl
      have HMS : Hid (memN nm (cs.take j) = (decide (cs[x].name = nm) || memN nm ((cs.take j).drop (x + 1)))) := by
        rw [Hid, HM.out, memN_drop ht1, ht2]
      have HEQ := Lib.hid (eq_toList cs[x].name nm)
      clear HM ht1 ht2
      generalize cs[x].name = yn at *
      have x1 : (0 : Int) ≤ (x : Int) := by omega
      have x2 : (x : Int) < (cs.length : Int) := by omega
      have heq := HEQ.out
      cases hdec : decide (yn = nm) with
      | true =>
        rw [hdec] at heq
        have HR : Hid (E = 8) := by
          have hm : memN nm (cs.take j) = true := by rw [HMS.out, hdec]; rfl
          have : G = 8 := by rw [HCE2.out, if_pos hm]
          rw [Hid, HBADG.out (by rw [this]; decide), this]
        clear HMS HEQ hdec HCE2 HBADG HSTEP2 HBADF HGOOD HROWS HTAKE
        go_wp2_with (fail)
        all_goals try (exfalso; omega)
        go_quiet (fail)
        go_wp2
        go_ret
        exact ⟨ret_int HR.out.symm, ((HFW.out.trans HFj.out).trans HFx.out).trans (fresh_drewN _ _)⟩
      | false =>
        rw [hdec] at heq
        have HN : Hid (memN nm (cs.take j) = memN nm ((cs.take j).drop (x + 1))) := by rw [Hid, HMS.out, hdec]; rfl
        clear HMS HEQ hdec
        go_wp2_with (fail)
        all_goals try (exfalso; omega)
        go_quiet (fail)
        go_wp2
        go_roundw
        case rel => exact ⟨x + 1, by simp, by omega, HN.out, HFx.out.trans (fresh_drewN _ _)⟩
        case measure => simp [intOf]; omega
    · obtain rfl : x = j := by omega
      have HM0 : Hid (memN nm (cs.take x) = false) := by rw [Hid, HM.out, List.drop_of_length_le (by rw [List.length_take]; omega)]; rfl
      have HCE3 : Hid (G = if imgB im.data.toList = true then 0 else 6) := by rw [Hid, HCE2.out, HM0.out, if_neg (by simp)]
      clear HM HM0 HCE2
      cases hib : imgB im.data.toList with
      | false =>
        rw [hib] at HIM
        have HR : Hid (E = 6) := by
          have : G = 6 := by rw [HCE3.out, hib, if_neg (by simp)]
          rw [Hid, HBADG.out (by rw [this]; decide), this]
        clear HCE3 hib HBADG HSTEP2 HBADF HGOOD HROWS HTAKE
        go_wp2_with (fail)
        all_goals try (exfalso; omega)
        refine (HIM.out _).mono ?_
        rintro e w4 ⟨rfl, hf⟩
        have HF4 := Lib.hid (((HFW.out.trans HFj.out).trans HFx.out).trans hf)
        clear hf
        go_wp2
        go_ret
        exact ⟨ret_int HR.out.symm, HF4.out⟩
      | true =>
        rw [hib] at HIM
        have HN : Hid (F = cs2E (cs.take (x + 1)) (cs.drop (x + 1))) := by
          have : G = 0 := by rw [HCE3.out, hib, if_pos rfl]
          rw [Hid, HSTEP2.out, if_pos this]
        clear HCE3 hib HBADG HSTEP2 HROWS HTAKE
        go_wp2_with (fail)
        all_goals try (exfalso; omega)
        refine (HIM.out _).mono ?_
        rintro e w4 ⟨rfl, hf⟩
        have HF4 := Lib.hid ((HFj.out.trans HFx.out).trans hf)
        clear hf
        go_wp2
        go_roundw
        case rel => exact ⟨x + 1, by simp, by omega, HN.out, HF4.out⟩
        case measure => simp [intOf]; omega

  have hk1 : 0 < k := by omega
  have hpv := HPV2.out hk1
  have hw := wrap_pred hk1 (by omega)
  have i1 : (0 : Int) ≤ ((k - 1 : Nat) : Int) := by omega
  have i2 : ((k - 1 : Nat) : Int) < (l.length : Int) := by omega
  clear HPV2 HL1 hk0
  cases hl : (x1 || x2) with
  | true =>
    have HR := Lib.hid (HBAD.out 6 (by rw [HH2.out, HLE.out, hl, if_pos rfl]) (by decide))
    clear HSTEP HH2 HLE hxx HF2E HBAD
    cases x1 <;> cases x2 <;> simp at hl <;> (go_wp2_with (fail); go_quiet (fail); go_wp2; go_ret; exact ⟨ret_int HR.out.symm, HFW.out.trans (fresh_drewN _ _)⟩)
  | false =>
    have HH3 : Hid (H = if 2 < r ∨ gr < 1 ∨ 3600 < gr then 7 else if cs.length = 0 then 16 else if 16 < cs.length then 18 else 0) := by rw [Hid, HH2.out, HLE.out, hl, if_neg (by simp)]
    clear HH2 HLE hxx
    simp only [Bool.or_eq_false_iff] at hl
    obtain ⟨rfl, rfl⟩ := hl
    go_wp2_with (fail)
    go_quiet (fail)
    have HFW := Lib.hid (HFW.out.trans (fresh_drewN w1 nq))
    have HF2 := Lib.hid (HF2.out.trans (fresh_drewN w1 nq))
    have HCR : Hid (RowAt (w1.drewN nq) ca (c2s cs)) := HCR.out.move (fresh_drewN w1 nq)
    have HZ : Hid ((w1.drewN nq).heap[z]? = some (.cells #[.string file, .string name, .string ns, .int .u8 r, .int .u16 gr, .slice ca cs.length cc] 103)) := HZ.out
    by_cases hrg : 2 < r ∨ gr < 1 ∨ 3600 < gr
    · have HR := Lib.hid (HBAD.out 7 (by rw [HH3.out, if_pos hrg]) (by decide))
      clear HSTEP HH3 HBAD HF2E
      by_cases h1 : 2 < r
      · go_wp2
        all_goals try (exfalso; omega)
        go_ret
        exact ⟨ret_int HR.out.symm, HFW.out⟩
      by_cases h2 : gr < 1
      · have e0 : (gr == 0) = true := by rw [beq_iff_eq]; omega
        go_wp2
        all_goals try (exfalso; omega)
        go_ret
        exact ⟨ret_int HR.out.symm, HFW.out⟩
      have h3 : 3600 < gr := by omega
      have e0 : (gr == 0) = false := by rw [beq_eq_false_iff_ne]; omega
      go_wp2
      all_goals try (exfalso; omega)
      go_ret
      exact ⟨ret_int HR.out.symm, HFW.out⟩
    have h1 : ¬ 2 < r := by omega
    have e1 : (gr == 0) = false := by rw [beq_eq_false_iff_ne]; omega
    have h3 : ¬ 3600 < gr := by omega
    have HH4 : Hid (H = if cs.length = 0 then 16 else if 16 < cs.length then 18 else 0) := by rw [Hid, HH3.out, if_neg hrg]
    clear HH3 hrg
    by_cases h0 : cs.length = 0
    · have HR := Lib.hid (HBAD.out 16 (by rw [HH4.out, if_pos h0]) (by decide))
      have e0 : ((cs.length : Int) == 0) = true := by rw [beq_iff_eq]; omega
      clear HSTEP HH4 HBAD HF2E
      go_wp2
      all_goals try (exfalso; omega)
      go_ret
      exact ⟨ret_int HR.out.symm, HFW.out⟩
    have e0 : ((cs.length : Int) == 0) = false := by rw [beq_eq_false_iff_ne]; omega
    by_cases h16 : 16 < cs.length
    · have HR := Lib.hid (HBAD.out 18 (by rw [HH4.out, if_neg h0, if_pos h16]) (by decide))
      clear HSTEP HH4 HBAD HF2E
      go_wp2
      all_goals try (exfalso; omega)
      go_ret
      exact ⟨ret_int HR.out.symm, HFW.out⟩
    have HC : Hid (F = cs2E (cs.take 0) (cs.drop 0)) := by
      have : H = 0 := by rw [HH4.out, if_neg h0, if_neg h16]
      rw [Hid, HF2E.out, if_pos this]
    have HBADF : Hid (F ≠ 0 → E = F) := fun h => by rw [HSTEP.out, if_neg h]
    have HGOOD : Hid (F = 0 → E = chk2F file ((pods2 l).drop (k + 1))) := fun h => by rw [HSTEP.out, if_pos h]
    clear HH4 HBAD HF2E HSTEP
    go_wp2
    all_goals try (exfalso; omega)
    clear q0 q1 q2 q3 q4 q5 d0 d1 h1 e1 h3 hx1 hx2 hpv hw i1 i2
    generalize w1.drewN nq = V0 at *
    go_loopw [5] (fun a5 wr => ∃ (j : Nat), a5 = .int .i64 (j : Int) ∧ j ≤ cs.length ∧ Hid (F = cs2E (cs.take j) (cs.drop j)) ∧ Hid (Fresh V0 wr)) (fun a5 _ => cs.length - (intOf a5).toNat)
    case atStart => exact ⟨0, rfl, Nat.zero_le _, HC.out, Fresh.refl _⟩
    case round =>
    clear HC
    obtain ⟨j, rfl, hj, HE, HFj⟩ := hrel
    have q5 := cell_of_at (HFj.out.at HZ.out) (i := 5) rfl
    by_cases hjl : ¬ j < cs.length
    · obtain rfl : j = cs.length := by omega
      have HF00 : Hid (F = 0) := by rw [Hid, HE.out, List.drop_of_length_le (Nat.le_refl _)]; rfl
      have HN := Lib.hid (HGOOD.out HF00.out)
      go_wp2
      all_goals try (exfalso; omega)
      go_roundw
      case rel => exact ⟨k + 1, by simp, by omega, by rw [HAH.out]; exact HN.out, HF2.out.trans HFj.out⟩
      case measure => simp [intOf]; omega
    have hjl : j < cs.length := by omega
    obtain ⟨gg, o2, rfl, hc⟩ := c2_form (HCR.out.move HFj.out) hjl
    have HROWS := Lib.hid hc
    obtain ⟨c0, c1⟩ := hc j hjl
    have HSTEP2 := Lib.hid (HE.out.trans (cs2E_drop hjl))
    have HCE : Hid (c2E (cs.take j) cs[j] = if labB cs[j].name.data.toList = true then (if memN cs[j].name (cs.take j) = true then 8 else if imgB cs[j].image.data.toList = true then 0 else 6) else 13) := rfl
    have HLN := Lib.hid (fun W => rlabel_any cs[j].name W (Nat.le_trans (HCF.out _ (List.getElem_mem hjl)).1 (by omega)))
    have HIM := Lib.hid (fun W => rimage_any cs[j].image W (Nat.le_trans (HCF.out _ (List.getElem_mem hjl)).2 (by omega)))
    have HMEM : Hid (memN cs[j].name (cs.take j) = memN cs[j].name ((cs.take j).drop 0)) := rfl
    have HTAKE : Hid (∀ x (hx : x < j) (hx' : x < cs.length), ∃ h : x < (cs.take j).length, (cs.take j)[x] = cs[x]) := fun x hx hx' => ⟨by rw [List.length_take]; omega, by simp⟩
    clear hc HE
    generalize c2E (cs.take j) cs[j] = G at *
    generalize cs[j] = d at *
    obtain ⟨nm, im⟩ := d
    dsimp only [C2.lies] at *
    have HBADG : Hid (G ≠ 0 → E = G) := fun h => by
      have : F = G := by rw [HSTEP2.out, if_neg h]
      rw [HBADF.out (by rw [this]; exact h), this]
    have j1 : (0 : Int) ≤ (j : Int) := by omega
    have j2 : (j : Int) < (cs.length : Int) := by omega
    cases hlb : labB nm.data.toList with
    | false =>
      rw [hlb] at HLN
      have HR : Hid (E = 13) := by
        have : G = 13 := by rw [HCE.out, if_neg (by rw [hlb]; simp)]
        rw [Hid, HBADG.out (by rw [this]; decide), this]
      clear HCE hlb HBADG HSTEP2 HBADF HGOOD HROWS HTAKE HMEM
      go_wp2_with (fail)
      all_goals try (exfalso; omega)
      refine (HLN.out _).mono ?_
      rintro e w3 ⟨rfl, rfl⟩
      go_wp2
      go_ret
      exact ⟨ret_int HR.out.symm, HFW.out.trans HFj.out⟩
    | true =>
    rw [hlb] at HLN
    have HCE2 : Hid (G = if memN nm (cs.take j) = true then 8 else if imgB im.data.toList = true then 0 else 6) := by rw [Hid, HCE.out, if_pos hlb]
    clear HCE hlb
    go_wp2_with (fail)
    all_goals try (exfalso; omega)
    refine (HLN.out _).mono ?_
    rintro e w3 ⟨rfl, rfl⟩
    clear HLN
    have HQ5 := Lib.hid q5
    have HC0 := Lib.hid c0
    have HC1 := Lib.hid c1
    go_wp2
    clear q5 c0 c1
    go_loopw [6] (fun a6 wx => ∃ (x : Nat), a6 = .int .i64 (x : Int) ∧ x ≤ j ∧ Hid (memN nm (cs.take j) = memN nm ((cs.take j).drop x)) ∧ Hid (Fresh wr wx)) (fun a6 _ => j - (intOf a6).toNat)
    case atStart => exact ⟨0, rfl, Nat.zero_le _, HMEM.out, Fresh.refl _⟩
    case round =>
    clear HMEM
    obtain ⟨x, rfl, hx, HM, HFx⟩ := hrel
    have q5 := HFx.out.cell HQ5.out
    have c0 := HFx.out.cell HC0.out
    have c1 := HFx.out.cell HC1.out
    by_cases hxj : x < j
    · have hxl : x < cs.length := by omega
      have p0 := HFx.out.cell (HROWS.out x hxl).1
      obtain ⟨ht1, ht2⟩ := HTAKE.out x hxj hxl
      have HMS : Hid (memN nm (cs.take j) = (decide (cs[x].name = nm) || memN nm ((cs.take j).drop (x + 1)))) := by
        rw [Hid, HM.out, memN_drop ht1, ht2]
      have HEQ := Lib.hid (eq_toList cs[x].name nm)
      clear HM ht1 ht2
      generalize cs[x].name = yn at *
      have x1 : (0 : Int) ≤ (x : Int) := by omega
      have x2 : (x : Int) < (cs.length : Int) := by omega
      have heq := HEQ.out
      cases hdec : decide (yn = nm) with
      | true =>
        rw [hdec] at heq
        have HR : Hid (E = 8) := by
          have hm : memN nm (cs.take j) = true := by rw [HMS.out, hdec]; rfl
          have : G = 8 := by rw [HCE2.out, if_pos hm]
          rw [Hid, HBADG.out (by rw [this]; decide), this]
        clear HMS HEQ hdec HCE2 HBADG HSTEP2 HBADF HGOOD HROWS HTAKE
        go_wp2_with (fail)
        all_goals try (exfalso; omega)
        go_quiet (fail)
        go_wp2
        go_ret
        exact ⟨ret_int HR.out.symm, ((HFW.out.trans HFj.out).trans HFx.out).trans (fresh_drewN _ _)⟩
      | false =>
        rw [hdec] at heq
        have HN : Hid (memN nm (cs.take j) = memN nm ((cs.take j).drop (x + 1))) := by rw [Hid, HMS.out, hdec]; rfl
        clear HMS HEQ hdec
        go_wp2_with (fail)
        all_goals try (exfalso; omega)
        go_quiet (fail)
        go_wp2
        go_roundw
        case rel => exact ⟨x + 1, by simp, by omega, HN.out, HFx.out.trans (fresh_drewN _ _)⟩
        case measure => simp [intOf]; omega
    · obtain rfl : x = j := by omega
      have HM0 : Hid (memN nm (cs.take x) = false) := by rw [Hid, HM.out, List.drop_of_length_le (by rw [List.length_take]; omega)]; rfl
      have HCE3 : Hid (G = if imgB im.data.toList = true then 0 else 6) := by rw [Hid, HCE2.out, HM0.out, if_neg (by simp)]
      clear HM HM0 HCE2
      cases hib : imgB im.data.toList with
      | false =>
        rw [hib] at HIM
        have HR : Hid (E = 6) := by
          have : G = 6 := by rw [HCE3.out, hib, if_neg (by simp)]
          rw [Hid, HBADG.out (by rw [this]; decide), this]
        clear HCE3 hib HBADG HSTEP2 HBADF HGOOD HROWS HTAKE
        go_wp2_with (fail)
        all_goals try (exfalso; omega)
        refine (HIM.out _).mono ?_
        rintro e w4 ⟨rfl, hf⟩
        have HF4 := Lib.hid (((HFW.out.trans HFj.out).trans HFx.out).trans hf)
        clear hf
        go_wp2
        go_ret
        exact ⟨ret_int HR.out.symm, HF4.out⟩
      | true =>
        rw [hib] at HIM
        have HN : Hid (F = cs2E (cs.take (x + 1)) (cs.drop (x + 1))) := by
          have : G = 0 := by rw [HCE3.out, hib, if_pos rfl]
          rw [Hid, HSTEP2.out, if_pos this]
        clear HCE3 hib HBADG HSTEP2 HROWS HTAKE
        go_wp2_with (fail)
        all_goals try (exfalso; omega)
        refine (HIM.out _).mono ?_
        rintro e w4 ⟨rfl, hf⟩
        have HF4 := Lib.hid ((HFj.out.trans HFx.out).trans hf)
        clear hf
        go_wp2
        go_roundw
        case rel => exact ⟨x + 1, by simp, by omega, HN.out, HF4.out⟩
        case measure => simp [intOf]; omega

end Go.Proofs.Ytphjhlnjfcfdcaa
namespace Go.Proofs.Ytphjhlnjfcfdcaa
open Go.ChangeShapes Go.WideShapes Go.ChangeAt Go.RowKit
set_option maxRecDepth 100000

theorem infoRP2 : (Try.prog.info? 103).map (fun i => (i.zero, i.size, i.bytes)) = some (some (.agg #[.string ⟨#[]⟩, .string ⟨#[]⟩, .string ⟨#[]⟩, .int .u8 0, .int .u16 0, .slice none 0 0]), 6, 80) := by kernel_rfl
theorem infoRC2 : (Try.prog.info? 104).map (fun i => (i.zero, i.size, i.bytes)) = some (some (.agg #[.string ⟨#[]⟩, .string ⟨#[]⟩]), 2, 32) := by kernel_rfl
/-- The boxes of the document's Decode, and what it has come to. -/
structure DS2 (w W : World) (z y : Nat) (s : ByteArray) (e q : Int) (o : Option Addr) (k c : Nat) (D : List M2) : Prop where
  hz : z = w.heap.size
  h1 : z + 1 < y
  r : W.heap[z]? = some (.cells #[.int .u64 0, .slice none 0 0] 53)
  t : W.heap[z + 1]? = some (.cells #[.string s, .int .i64 e] 89)
  st : W.heap[y]? = some (.cells #[.int .u64 q, .slice o k c] 53)
  row : W.ownsRow (y + 1) 103 6 (.slice o k c) k (m2s D)
  far : ∀ m ∈ D, m.Far (y + 1) (Value.slice o k c).ownBlock W
  fr : Fresh w W
/-- .. and the pod that it takes. -/
structure DP2 (w W : World) (z y pb : Nat) (s : ByteArray) (e q : Int) (o : Option Addr) (k c : Nat) (D : List M2) (pc : Array Value) (a : Option Addr) (n cc : Nat) (cs : List C2) : Prop extends DS2 w W z y s e q o k c D where
  h2 : y < pb
  p : W.heap[pb]? = some (.cells pc 103)
  lowR : ∀ g, (Value.slice o k c).ownBlock = some g → g < pb
  lowD : ∀ m ∈ D, ∀ ad : Addr, m.a = some ad → ad.block < pb
  crow : W.ownsRow (pb + 1) 104 2 (.slice a n cc) n (c2s cs)
/-- .. and the container. -/
structure DC2 (w W : World) (z y pb cb : Nat) (s : ByteArray) (e q : Int) (o : Option Addr) (k c : Nat) (D : List M2) (pc : Array Value) (a : Option Addr) (n cc : Nat) (cs : List C2) (xc : Array Value) : Prop extends DP2 w W z y pb s e q o k c D pc a n cc cs where
  h3 : pb < cb
  x : W.heap[cb]? = some (.cells xc 104)
  lowC : ∀ g, (Value.slice a n cc).ownBlock = some g → g < cb
section
variable {w W W' : World} {z y pb cb : Nat} {s : ByteArray} {e q : Int} {o : Option Addr} {k c : Nat} {D : List M2} {pc xc : Array Value} {a : Option Addr} {n cc : Nat} {cs : List C2}
theorem DS2.fresh (h : DS2 w W z y s e q o k c D) (f : Fresh W W') : DS2 w W' z y s e q o k c D :=
  ⟨h.hz, h.h1, f.at h.r, f.at h.t, f.at h.st, own_fresh h.row f, fun m hm => (h.far m hm).fresh f, h.fr.trans f⟩
theorem DP2.fresh (h : DP2 w W z y pb s e q o k c D pc a n cc cs) (f : Fresh W W') : DP2 w W' z y pb s e q o k c D pc a n cc cs :=
  ⟨h.toDS2.fresh f, h.h2, f.at h.p, h.lowR, h.lowD, own_fresh h.crow f⟩
theorem DC2.fresh (h : DC2 w W z y pb cb s e q o k c D pc a n cc cs xc) (f : Fresh W W') : DC2 w W' z y pb cb s e q o k c D pc a n cc cs xc :=
  ⟨h.toDP2.fresh f, h.h3, f.at h.x, h.lowC⟩
theorem DS2.setT (h : DS2 w W z y s e q o k c D) (s' : ByteArray) (e' : Int) : DS2 w ((W.setCell ⟨z + 1, 0, none⟩ (.string s')).setCell ⟨z + 1, 1, none⟩ (.int .i64 e')) z y s' e' q o k c D := by
  have hh := h.h1
  refine ⟨h.hz, h.h1, at_off (at_off h.r (by omega) _) (by omega) _, ?_, at_off (at_off h.st (by omega) _) (by omega) _, ?_, fun m hm => ((h.far m hm).set (by omega)).set (by omega), ?_⟩
  · exact at_set (at_set h.t 0 (.string s')) 1 (.int .i64 e')
  · exact own_set (p := ⟨z + 1, 1, none⟩) (own_set (p := ⟨z + 1, 0, none⟩) h.row (by show z + 1 < y + 1; omega) _) (by show z + 1 < y + 1; omega) _
  · exact (h.fr.setCell (p := ⟨z + 1, 0, none⟩) (by show w.heap.size ≤ z + 1; rw [h.hz]; omega) _).setCell (p := ⟨z + 1, 1, none⟩) (by show w.heap.size ≤ z + 1; rw [h.hz]; omega) _
theorem DP2.setT (h : DP2 w W z y pb s e q o k c D pc a n cc cs) (s' : ByteArray) (e' : Int) : DP2 w ((W.setCell ⟨z + 1, 0, none⟩ (.string s')).setCell ⟨z + 1, 1, none⟩ (.int .i64 e')) z y pb s' e' q o k c D pc a n cc cs := by
  have h1 := h.h1
  have h2 := h.h2
  exact ⟨h.toDS2.setT s' e', h.h2, at_off (at_off h.p (by omega) _) (by omega) _, h.lowR, h.lowD, own_set (p := ⟨z + 1, 1, none⟩) (own_set (p := ⟨z + 1, 0, none⟩) h.crow (by show z + 1 < pb + 1; omega) _) (by show z + 1 < pb + 1; omega) _⟩
theorem DC2.setT (h : DC2 w W z y pb cb s e q o k c D pc a n cc cs xc) (s' : ByteArray) (e' : Int) : DC2 w ((W.setCell ⟨z + 1, 0, none⟩ (.string s')).setCell ⟨z + 1, 1, none⟩ (.int .i64 e')) z y pb cb s' e' q o k c D pc a n cc cs xc := by
  have h1 := h.h1
  have h2 := h.h2
  have h3 := h.h3
  exact ⟨h.toDP2.setT s' e', h.h3, at_off (at_off h.x (by omega) _) (by omega) _, h.lowC⟩
/-- A cell of a box above all that is kept. -/
theorem DS2.off (h : DS2 w W z y s e q o k c D) {b i : Nat} (hb : y < b) (h1 : ∀ g, (Value.slice o k c).ownBlock = some g → g ≠ b) (h2 : ∀ m ∈ D, ∀ ad : Addr, m.a = some ad → ad.block ≠ b) (u : Value) : DS2 w (W.setCell ⟨b, i, none⟩ u) z y s e q o k c D := by
  have hh := h.h1
  refine ⟨h.hz, h.h1, at_off h.r (by omega) _, at_off h.t (by omega) _, at_off h.st (by omega) _, ?_, fun m hm => ?_, ?_⟩
  · refine World.ownsRow.kept h.row (grown_set W b i u) ?_
    rcases h' : (Value.slice o k c).ownBlock with _ | g
    · exact .inl rfl
    · exact .inr (fun e2 => h1 g h' (by simpa using e2))
  · have hf := h.far m hm
    exact ⟨⟨hf.1.1.set (p := ⟨b, i, none⟩) (h2 m hm) u, hf.1.2⟩, fun ad e => ⟨(hf.2 ad e).1, by rw [World.size_setCell]; exact (hf.2 ad e).2.1, (hf.2 ad e).2.2⟩⟩
  · exact h.fr.setCell (p := ⟨b, i, none⟩) (by show w.heap.size ≤ b; rw [← h.hz]; omega) _
theorem DP2.setP (h : DP2 w W z y pb s e q o k c D pc a n cc cs) (i : Nat) (u : Value) : DP2 w (W.setCell ⟨pb, i, none⟩ u) z y pb s e q o k c D (pc.setIfInBounds i u) a n cc cs :=
  ⟨h.toDS2.off h.h2 (fun g e => by have := h.lowR g e; omega) (fun m hm ad e => by have := h.lowD m hm ad e; omega) u, h.h2, at_set h.p i u, h.lowR, h.lowD, own_set (p := ⟨pb, i, none⟩) h.crow (by show pb < pb + 1; omega) _⟩
theorem DC2.setC (h : DC2 w W z y pb cb s e q o k c D pc a n cc cs xc) (i : Nat) (u : Value) : DC2 w (W.setCell ⟨cb, i, none⟩ u) z y pb cb s e q o k c D pc a n cc cs (xc.setIfInBounds i u) := by
  have h2 := h.h2
  have h3 := h.h3
  refine ⟨⟨h.toDS2.off (by omega) (fun g e => by have := h.lowR g e; omega) (fun m hm ad e => by have := h.lowD m hm ad e; omega) u, h.h2, at_off h.p (by omega) _, h.lowR, h.lowD, ?_⟩, h.h3, at_set h.x i u, h.lowC⟩
  refine World.ownsRow.kept h.crow (grown_set W cb i u) ?_
  rcases h' : (Value.slice a n cc).ownBlock with _ | g
  · exact .inl rfl
  · exact .inr (fun e2 => by have := h.lowC g h'; have : g = cb := by simpa using e2
                             omega)
/-- A pod's box. -/
theorem DS2.pod (h : DS2 w W z y s e q o k c D) : DP2 w (W.alloc (.cells #[.string ⟨#[]⟩, .string ⟨#[]⟩, .string ⟨#[]⟩, .int .u8 0, .int .u16 0, .slice none 0 0] 103)) z y W.heap.size s e q o k c D #[.string ⟨#[]⟩, .string ⟨#[]⟩, .string ⟨#[]⟩, .int .u8 0, .int .u16 0, .slice none 0 0] none 0 0 [] :=
  ⟨h.fresh ((Fresh.refl W).alloc _), lt_of_at h.st, at_new _ _, fun g e => (World.ownsRow.lt h.row g e).2, fun m hm ad e => ((h.far m hm).2 ad e).2.1, World.ownsRow_nil _ _ _ _⟩
theorem DP2.cont (h : DP2 w W z y pb s e q o k c D pc a n cc cs) : DC2 w (W.alloc (.cells #[.string ⟨#[]⟩, .string ⟨#[]⟩] 104)) z y pb W.heap.size s e q o k c D pc a n cc cs #[.string ⟨#[]⟩, .string ⟨#[]⟩] :=
  ⟨h.fresh ((Fresh.refl W).alloc _), lt_of_at h.p, at_new _ _, fun g e => (World.ownsRow.lt h.crow g e).2⟩
/-- Behind an append to the containers. -/
theorem DP2.grownC (h : DP2 w W z y pb s e q o k c D pc a n cc cs) (hg : W.grownBy W' (Value.slice a n cc).ownBlock) {a' : Option Addr} {n' cc' : Nat} {cs' : List C2} (hr : W'.ownsRow (pb + 1) 104 2 (.slice a' n' cc') n' (c2s cs')) : DP2 w W' z y pb s e q o k c D pc a' n' cc' cs' := by
  have h1 := h.h1
  have h2 := h.h2
  have hlt : ∀ g, (Value.slice a n cc).ownBlock = some g → pb + 1 ≤ g := fun g e => (World.ownsRow.lt h.crow g e).1
  have hne : ∀ b, b ≤ pb → some b ≠ (Value.slice a n cc).ownBlock := fun b hb e => by have := hlt b e.symm; omega
  have hat : ∀ {b : Nat} {x : Obj}, b ≤ pb → W.heap[b]? = some x → W'.heap[b]? = some x := fun {b x} hb hx => (hg.block b (lt_of_at hx) (hne b hb)).trans hx
  refine ⟨⟨h.hz, h.h1, hat (by omega) h.r, hat (by omega) h.t, hat (by omega) h.st, ?_, fun m hm => ?_, ?_⟩, h.h2, hat (Nat.le_refl _) h.p, h.lowR, h.lowD, hr⟩
  · refine World.ownsRow.kept h.row hg ?_
    rcases h' : (Value.slice o k c).ownBlock with _ | g
    · exact .inl rfl
    · exact .inr (hne g (Nat.le_of_lt (h.lowR g h')))
  · have hf := h.far m hm
    refine ⟨⟨hf.1.1.keep (fun ad e => hg.block ad.block (hf.2 ad e).2.1 (hne _ (Nat.le_of_lt (h.lowD m hm ad e)))), hf.1.2⟩, fun ad e => ⟨(hf.2 ad e).1, Nat.lt_of_lt_of_le (hf.2 ad e).2.1 hg.size, (hf.2 ad e).2.2⟩⟩
  · exact h.fr.grown hg (fun g e => by have := hlt g e; have := h.hz; omega)
/-- Behind an append to the pods, and its store. -/
theorem DP2.grownP (h : DP2 w W z y pb s e q o k c D pc a n cc cs) {m : M2} (hma : m.a = a) (hmc : m.p.cs = cs) (hml : cs.length ≤ m.c) (hg : W.grownBy W' (Value.slice o k c).ownBlock) {g' c' : Nat} (hat : (Value.slice o k c).ownBlock = some g' ∨ g' = W.heap.size)
    (hr : W'.ownsRow (y + 1) 103 6 (.slice (some ⟨g', 0, none⟩) (k + 1) c') (k + 1) (m2s (D ++ [m]))) : DS2 w (W'.setCell ⟨y, 1, none⟩ (.slice (some ⟨g', 0, none⟩) (k + 1) c')) z y s e q (some ⟨g', 0, none⟩) (k + 1) c' (D ++ [m]) := by
  have h1 := h.h1
  have h2 := h.h2
  have hlt : ∀ g, (Value.slice o k c).ownBlock = some g → y + 1 ≤ g := fun g e => (World.ownsRow.lt h.row g e).1
  have hne : ∀ b, b ≤ y → some b ≠ (Value.slice o k c).ownBlock := fun b hb e => by have := hlt b e.symm; omega
  have hst : ∀ {b : Nat} {x : Obj}, b ≤ y → W.heap[b]? = some x → W'.heap[b]? = some x := fun {b x} hb hx => (hg.block b (lt_of_at hx) (hne b hb)).trans hx
  have hcl := fun g e => World.ownsRow.lt h.crow g e
  have hm : m.Far (y + 1) (Value.slice o k c).ownBlock W := by
    refine ⟨⟨?_, by rw [hmc]; exact hml⟩, fun ad e => ?_⟩
    · rw [hma, hmc]; exact RowAt.owns h.crow
    · have h3 := hcl ad.block (by rw [← hma, e]; rfl)
      exact ⟨by omega, h3.2, fun e2 => by have := h.lowR _ e2.symm; omega⟩
  refine ⟨h.hz, h.h1, at_off (hst (by omega) h.r) (by omega) _, at_off (hst (by omega) h.t) (by omega) _, at_set (hst (Nat.le_refl _) h.st) 1 _, own_set (p := ⟨y, 1, none⟩) hr (by show y < y + 1; omega) _, fun x hx => ?_, ?_⟩
  · have hf : x.Far (y + 1) (Value.slice o k c).ownBlock W := by
      rcases List.mem_append.1 hx with hx | hx
      · exact h.far x hx
      · rw [List.mem_singleton.1 hx]; exact hm
    exact (hf.grown hg hat).set (by omega)
  · exact (h.fr.grown hg (fun g e => by have := hlt g e; have := h.hz; omega)).setCell (p := ⟨y, 1, none⟩) (by show w.heap.size ≤ y; have := h.hz; omega) _
/-- The taker's two cells. -/
theorem DS2.tc (h : DS2 w W z y s e q o k c D) : W.cell? ⟨z + 1, 0, none⟩ = some (.string s) ∧ W.cell? ⟨z + 1, 1, none⟩ = some (.int .i64 e) ∧ W.frozen? ⟨z + 1, 0, none⟩ = false ∧ W.frozen? ⟨z + 1, 1, none⟩ = false :=
  ⟨cell_of_at h.t rfl, cell_of_at h.t rfl, frozen_of_at h.t 0, frozen_of_at h.t 1⟩
theorem DP2.pc6 {v0 v1 v2 v3 v4 v5 : Value} (h : DP2 w W z y pb s e q o k c D #[v0, v1, v2, v3, v4, v5] a n cc cs) :
    (W.cell? ⟨pb, 0, none⟩ = some v0 ∧ W.cell? ⟨pb, 1, none⟩ = some v1 ∧ W.cell? ⟨pb, 2, none⟩ = some v2 ∧ W.cell? ⟨pb, 3, none⟩ = some v3 ∧ W.cell? ⟨pb, 4, none⟩ = some v4 ∧ W.cell? ⟨pb, 5, none⟩ = some v5) ∧ W.frozen? ⟨pb, 0, none⟩ = false ∧ W.frozen? ⟨pb, 1, none⟩ = false ∧ W.frozen? ⟨pb, 2, none⟩ = false ∧ W.frozen? ⟨pb, 3, none⟩ = false ∧ W.frozen? ⟨pb, 4, none⟩ = false ∧ W.frozen? ⟨pb, 5, none⟩ = false :=
  ⟨⟨cell_of_at h.p rfl, cell_of_at h.p rfl, cell_of_at h.p rfl, cell_of_at h.p rfl, cell_of_at h.p rfl, cell_of_at h.p rfl⟩, frozen_of_at h.p 0, frozen_of_at h.p 1, frozen_of_at h.p 2, frozen_of_at h.p 3, frozen_of_at h.p 4, frozen_of_at h.p 5⟩
theorem DC2.xc2 {v0 v1 : Value} (h : DC2 w W z y pb cb s e q o k c D pc a n cc cs #[v0, v1]) : (W.cell? ⟨cb, 0, none⟩ = some v0 ∧ W.cell? ⟨cb, 1, none⟩ = some v1) ∧ W.frozen? ⟨cb, 0, none⟩ = false ∧ W.frozen? ⟨cb, 1, none⟩ = false :=
  ⟨⟨cell_of_at h.x rfl, cell_of_at h.x rfl⟩, frozen_of_at h.x 0, frozen_of_at h.x 1⟩
theorem DS2.row2 (h : DS2 w W z y s e q o k c D) : Row2 W o D := ⟨RowAt.owns h.row, fun m hm => (h.far m hm).1⟩
end
end Go.Proofs.Ytphjhlnjfcfdcaa
namespace Go.Proofs.Ytphjhlnjfcfdcaa
open Go.ChangeShapes Go.WideShapes Go.ChangeAt Go.RowKit
set_option maxRecDepth 100000

abbrev M2.sl (m : M2) : Value := .slice m.a m.p.cs.length m.c
/-- A pod's containers, in a row of the document's that is owned. -/
def M2.Own (N : Nat) (W : World) (m : M2) : Prop := W.ownsRow N 104 2 m.sl m.p.cs.length (c2s m.p.cs)
structure OS (w W : World) (b : Nat) (seq : Int) (o : Option Addr) (k c : Nat) (D : List M2) : Prop where
  hb : b = w.heap.size
  r : W.heap[b + 1]? = some (.cells #[.int .u64 0, .slice none 0 0] 53)
  st : W.heap[b + 2]? = some (.cells #[.int .u64 seq, .slice o k c] 53)
  row : W.ownsRow (b + 3) 103 6 (.slice o k c) k (m2s D)
  each : ∀ m ∈ D, m.Own (b + 3) W
  fr : Fresh w W
structure OP (w W : World) (b : Nat) (seq : Int) (o : Option Addr) (k c : Nat) (D : List M2) (y : Nat) (pc : Array Value) (a : Option Addr) (n cc : Nat) (cs : List C2) : Prop extends OS w W b seq o k c D where
  hy : b + 2 < y
  p : W.heap[y]? = some (.cells pc 103)
  lowR : ∀ g, (Value.slice o k c).ownBlock = some g → g < y
  lowD : ∀ m ∈ D, ∀ g, m.sl.ownBlock = some g → g < y
  crow : W.ownsRow (y + 1) 104 2 (.slice a n cc) n (c2s cs)
theorem own_kept_ne {W W' : World} {B B' e e' k k' n n' : Nat} {v v' : Value} {xs xs' : List Value} (h : W.ownsRow B e k v n xs) (h' : W.ownsRow B' e' k' v' n' xs') (hne : e ≠ e') (hg : W.grownBy W' v'.ownBlock) : W'.ownsRow B e k v n xs :=
  World.ownsRow.kept h hg (own_ne h h' hne)
section
variable {w W W' : World} {b y : Nat} {seq : Int} {o : Option Addr} {k c : Nat} {D : List M2} {pc : Array Value} {a : Option Addr} {n cc : Nat} {cs : List C2}
theorem OS.fresh (h : OS w W b seq o k c D) (f : Fresh W W') : OS w W' b seq o k c D :=
  ⟨h.hb, f.at h.r, f.at h.st, own_fresh h.row f, fun m hm => own_fresh (h.each m hm) f, h.fr.trans f⟩
theorem OP.fresh (h : OP w W b seq o k c D y pc a n cc cs) (f : Fresh W W') : OP w W' b seq o k c D y pc a n cc cs :=
  ⟨h.toOS.fresh f, h.hy, f.at h.p, h.lowR, h.lowD, own_fresh h.crow f⟩
theorem OS.pod (h : OS w W b seq o k c D) (pc : Array Value) : OP w (W.alloc (.cells pc 103)) b seq o k c D W.heap.size pc none 0 0 [] :=
  ⟨h.fresh ((Fresh.refl W).alloc _), lt_of_at h.st, at_new _ _, fun g e => (World.ownsRow.lt h.row g e).2, fun m hm g e => (World.ownsRow.lt (h.each m hm) g e).2, World.ownsRow_nil _ _ _ _⟩
theorem OP.setP (h : OP w W b seq o k c D y pc a n cc cs) (i : Nat) (u : Value) : OP w (W.setCell ⟨y, i, none⟩ u) b seq o k c D y (pc.setIfInBounds i u) a n cc cs := by
  have hy := h.hy
  refine ⟨⟨h.hb, at_off h.r (by omega) _, at_off h.st (by omega) _, ?_, fun m hm => own_type (h.each m hm) h.p (by decide) i u, ?_⟩, h.hy, at_set h.p i u, h.lowR, h.lowD, own_set (p := ⟨y, i, none⟩) h.crow (by show y < y + 1; omega) _⟩
  · refine World.ownsRow.kept h.row (grown_set W y i u) ?_
    rcases h' : (Value.slice o k c).ownBlock with _ | g
    · exact .inl rfl
    · exact .inr (fun e2 => by have := h.lowR g h'; have : g = y := by simpa using e2
                               omega)
  · exact h.fr.setCell (p := ⟨y, i, none⟩) (by show w.heap.size ≤ y; rw [← h.hb]; omega) _
/-- Behind an append to the containers. -/
theorem OP.grownC (h : OP w W b seq o k c D y pc a n cc cs) (hg : W.grownBy W' (Value.slice a n cc).ownBlock) {a' : Option Addr} {n' cc' : Nat} {cs' : List C2} (hr : W'.ownsRow (y + 1) 104 2 (.slice a' n' cc') n' (c2s cs')) : OP w W' b seq o k c D y pc a' n' cc' cs' := by
  have hy := h.hy
  have hlt : ∀ g, (Value.slice a n cc).ownBlock = some g → y + 1 ≤ g := fun g e => (World.ownsRow.lt h.crow g e).1
  have hne : ∀ x, x ≤ y → some x ≠ (Value.slice a n cc).ownBlock := fun x hx e => by have := hlt x e.symm; omega
  have hat : ∀ {x : Nat} {z : Obj}, x ≤ y → W.heap[x]? = some z → W'.heap[x]? = some z := fun {x z} hx hz => (hg.block x (lt_of_at hz) (hne x hx)).trans hz
  refine ⟨⟨h.hb, hat (by omega) h.r, hat (by omega) h.st, own_kept_ne h.row h.crow (by decide) hg, fun m hm => ?_, ?_⟩, h.hy, hat (Nat.le_refl _) h.p, h.lowR, h.lowD, hr⟩
  · refine World.ownsRow.kept (h.each m hm) hg ?_
    rcases h' : m.sl.ownBlock with _ | g
    · exact .inl rfl
    · exact .inr (hne g (Nat.le_of_lt (h.lowD m hm g h')))
  · exact h.fr.grown hg (fun g e => by have := hlt g e; have := h.hb; omega)
/-- Behind an append to the pods, and its store. -/
theorem OP.grownP (h : OP w W b seq o k c D y pc a n cc cs) {m : M2} (hma : m.sl = .slice a n cc) (hml : m.p.cs.length = n) (hmc : m.p.cs = cs) (hg : W.grownBy W' (Value.slice o k c).ownBlock) {o' : Option Addr} {c' : Nat}
    (hr : W'.ownsRow (b + 3) 103 6 (.slice o' (k + 1) c') (k + 1) (m2s (D ++ [m]))) : OS w (W'.setCell ⟨b + 2, 1, none⟩ (.slice o' (k + 1) c')) b seq o' (k + 1) c' (D ++ [m]) := by
  have hy := h.hy
  have hlt : ∀ g, (Value.slice o k c).ownBlock = some g → b + 3 ≤ g := fun g e => (World.ownsRow.lt h.row g e).1
  have hat : ∀ {x : Nat} {z : Obj}, x ≤ b + 2 → W.heap[x]? = some z → W'.heap[x]? = some z := fun {x z} hx hz => (hg.block x (lt_of_at hz) (fun e => by have := hlt x e.symm; omega)).trans hz
  refine ⟨h.hb, at_off (hat (by omega) h.r) (by omega) _, at_set (hat (Nat.le_refl _) h.st) 1 _, own_set (p := ⟨b + 2, 1, none⟩) hr (by show b + 2 < b + 3; omega) _, fun x hx => ?_, ?_⟩
  · refine own_set (p := ⟨b + 2, 1, none⟩) ?_ (by show b + 2 < b + 3; omega) _
    rcases List.mem_append.1 hx with hx | hx
    · exact own_kept_ne (h.each x hx) h.row (by decide) hg
    · rw [List.mem_singleton.1 hx]
      show W'.ownsRow (b + 3) 104 2 m.sl m.p.cs.length (c2s m.p.cs)
      rw [hma, hml, hmc]
      exact World.ownsRow.mono (base := y + 1) (own_kept_ne h.crow h.row (by decide) hg) (by omega)
  · exact (h.fr.grown hg (fun g e => by have := hlt g e; have := h.hb; omega)).setCell (p := ⟨b + 2, 1, none⟩) (by show w.heap.size ≤ b + 2; have := h.hb; omega) _
theorem OP.pc6 {v0 v1 v2 v3 v4 v5 : Value} (h : OP w W b seq o k c D y #[v0, v1, v2, v3, v4, v5] a n cc cs) :
    (W.cell? ⟨y, 0, none⟩ = some v0 ∧ W.cell? ⟨y, 1, none⟩ = some v1 ∧ W.cell? ⟨y, 2, none⟩ = some v2 ∧ W.cell? ⟨y, 3, none⟩ = some v3 ∧ W.cell? ⟨y, 4, none⟩ = some v4 ∧ W.cell? ⟨y, 5, none⟩ = some v5) ∧ W.frozen? ⟨y, 0, none⟩ = false ∧ W.frozen? ⟨y, 1, none⟩ = false ∧ W.frozen? ⟨y, 2, none⟩ = false ∧ W.frozen? ⟨y, 3, none⟩ = false ∧ W.frozen? ⟨y, 4, none⟩ = false ∧ W.frozen? ⟨y, 5, none⟩ = false :=
  ⟨⟨cell_of_at h.p rfl, cell_of_at h.p rfl, cell_of_at h.p rfl, cell_of_at h.p rfl, cell_of_at h.p rfl, cell_of_at h.p rfl⟩, frozen_of_at h.p 0, frozen_of_at h.p 1, frozen_of_at h.p 2, frozen_of_at h.p 3, frozen_of_at h.p 4, frozen_of_at h.p 5⟩
end
/-- What Of answers. -/
def OfIs2 (seq : Int) (l : List P2) (w : World) (r : Ending) (w' : World) : Prop :=
  ∃ a c, ∃ D : List M2, r = .returned (st2 seq a D.length c) ∧ pods2 D = l ∧ w'.ownsRow w.heap.size 103 6 (.slice a D.length c) D.length (m2s D) ∧ (∀ m ∈ D, m.Own w.heap.size w') ∧ Fresh w w'
theorem M2.Own.in {N : Nat} {W : World} {m : M2} (h : m.Own N W) : m.In W := ⟨RowAt.owns h, own_le h⟩
set_option maxHeartbeats 8000000 in
theorem of2_any (seq : Int) (a : Option Addr) (l : List M2) (c : Nat) (w : World) (h : Row2 w a l) (hl : l.length ≤ 4000000) (hcl : ∀ m ∈ l, m.p.cs.length ≤ 4000000) :
    Calls Try.prog 24 #[st2 seq a l.length c] w (OfIs2 seq (pods2 l) w) := by
  have HROW := Lib.hid h
  have HCL := Lib.hid hcl
  obtain ⟨i0, hi, hz0, hz1, hz2⟩ := info_parts infoRP2
  obtain ⟨i1, hic, hic0, hic1, hic2⟩ := info_parts infoRC2
  dsimp only [st2]
  clear h hcl
  unfold OfIs2
  have hA := at_new ((w.alloc (.cells #[.int .u64 seq, .slice a l.length c] 49)).alloc (.cells #[.int .u64 0, .slice none 0 0] 53)) (.cells #[.int .u64 seq, .slice none 0 0] 53)
  rw [World.size_alloc, World.size_alloc] at hA
  have hB := at_new (w.alloc (.cells #[.int .u64 seq, .slice a l.length c] 49)) (.cells #[.int .u64 0, .slice none 0 0] 53)
  rw [World.size_alloc] at hB
  have hB := at_alloc (p := .cells #[.int .u64 seq, .slice none 0 0] 53) hB
  have hOS : OS w (((w.alloc (.cells #[.int .u64 seq, .slice a l.length c] 49)).alloc (.cells #[.int .u64 0, .slice none 0 0] 53)).alloc (.cells #[.int .u64 seq, .slice none 0 0] 53)) w.heap.size seq none 0 0 [] :=
    ⟨rfl, hB, hA, World.ownsRow_nil _ _ _ _, by simp, (((Fresh.refl w).alloc _).alloc _).alloc _⟩
  have HOS0 := Lib.hid hOS
  clear hA hB hOS
  go_enter Try.func24, Try.ntmps24
  go_wp2
  generalize ((w.alloc (.cells #[.int .u64 seq, .slice a l.length c] 49)).alloc (.cells #[.int .u64 0, .slice none 0 0] 53)).alloc (.cells #[.int .u64 seq, .slice none 0 0] 53) = W0 at *
  obtain ⟨b, hb⟩ : ∃ b, b = w.heap.size := ⟨_, rfl⟩
  have HBW := Lib.hid hb
  rw [← hb] at HOS0 ⊢
  clear hb
  go_loopw [15] (fun a15 wr => ∃ (k : Nat) (o : Option Addr) (c : Nat) (D : List M2), a15 = .int .i64 (k : Int) ∧ k ≤ l.length ∧ Hid (D.length = k) ∧ Hid (pods2 D = (pods2 l).take k) ∧ Hid (OS w wr b seq o k c D)) (fun a15 _ => l.length - (intOf a15).toNat)
  case atStart => exact ⟨0, none, 0, [], rfl, Nat.zero_le _, rfl, rfl, HOS0.out⟩
  case round =>
  clear HOS0
  obtain ⟨k, o, c2, D, rfl, hk, HD, HPD, HOS⟩ := hrel
  by_cases hlt : k < l.length
  case pos =>
    have hR := HROW.out.move HOS.out.fr
    obtain ⟨g, o1, rfl, hc⟩ := m2_form hR.row hlt
    obtain ⟨c0, c1, c2', c3, c4, c5⟩ := hc k hlt
    have HIN := Lib.hid (HROW.out.ins _ (List.getElem_mem hlt)).1
    have HNL := Lib.hid (HCL.out _ (List.getElem_mem hlt))
    have HTK : Hid ((pods2 l).take (k + 1) = (pods2 l).take k ++ [l[k].p]) := by
      rw [Hid, List.take_succ_eq_append_getElem (by simpa [pods2] using hlt)]; simp [pods2]
    have hsz3 : b + 2 < wr.heap.size := lt_of_at HOS.out.st
    clear hc hR
    generalize l[k] = m at *
    obtain ⟨⟨file, name, ns, r, gr, cs⟩, ca, cc⟩ := m
    have y4 : cs.length ≤ 4000000 := HNL.out
    have HIN : Hid (RowAt w ca (c2s cs)) := HIN.out
    dsimp only at *
    clear HNL
    have hOP := (HOS.out.fresh ((Fresh.refl wr).alloc (.cells #[.string file, .string name, .string ns, .int .u8 r, .int .u16 gr, .slice ca cs.length cc] 98))).pod #[.string file, .string name, .string ns, .int .u8 r, .int .u16 gr, .slice none 0 0]
    rw [World.size_alloc] at hOP
    have HOP0 := Lib.hid hOP
    clear hOP
    go_wp2
    all_goals try (exfalso; omega)
    clear c0 c1 c2' c3 c4 c5
    generalize (wr.alloc (.cells #[.string file, .string name, .string ns, .int .u8 r, .int .u16 gr, .slice ca cs.length cc] 98)).alloc (.cells #[.string file, .string name, .string ns, .int .u8 r, .int .u16 gr, .slice none 0 0] 103) = V0 at *
    obtain ⟨y, hy⟩ : ∃ y, y = wr.heap.size + 1 := ⟨_, rfl⟩
    rw [← hy] at HOP0 ⊢
    clear hy
    go_loopw [33] (fun a33 wv => ∃ (j : Nat) (a2 : Option Addr) (cc2 : Nat), a33 = .int .i64 (j : Int) ∧ j ≤ cs.length ∧ Hid (OP w wv b seq o k c2 D y #[.string file, .string name, .string ns, .int .u8 r, .int .u16 gr, .slice a2 j cc2] a2 j cc2 (cs.take j))) (fun a33 _ => cs.length - (intOf a33).toNat)
    case atStart => exact ⟨0, none, 0, rfl, Nat.zero_le _, HOP0.out⟩
    case round =>
    clear HOP0 HOS
    obtain ⟨j, a2, cc2, rfl, hj, HOP⟩ := hrel
    obtain ⟨⟨p0, p1, p2, p3, p4, p5⟩, g0, g1, g2, g3, g4, g5⟩ := HOP.out.pc6
    by_cases hjlt : j < cs.length
    case pos =>
      obtain ⟨gc, oc, rfl, hcc⟩ := c2_form (HIN.out.move HOP.out.fr) hjlt
      obtain ⟨l0, l1⟩ := hcc j hjlt
      have HTC : Hid (c2s (cs.take (j + 1)) = c2s (cs.take j) ++ [.string cs[j].name, .string cs[j].image]) := by rw [Hid, List.take_succ_eq_append_getElem hjlt, c2s_snoc]
      have hys : y < wr.heap.size := lt_of_at HOP.out.p
      clear hcc
      generalize cs[j] = x at *
      obtain ⟨x1, x2⟩ := x
      dsimp only at *
      have HN : Hid (∀ j u, [Value.string x1, .string x2][j]? = some u → ((wr.alloc (.cells #[.string x1, .string x2] 100)).alloc (.cells #[.string x1, .string x2] 104)).cell? ((⟨wr.heap.size + 1, 0, none⟩ : Addr).add j) = some u) := by
        have := news7 (wr.alloc (.cells #[.string x1, .string x2] 100)) 104 [.string x1, .string x2]
        rw [World.size_alloc] at this
        exact this
      have HOQ := Lib.hid (HOP.out.fresh (((Fresh.refl wr).alloc (.cells #[.string x1, .string x2] 100)).alloc (.cells #[.string x1, .string x2] 104)))
      go_wp2_with (at_builtin; refine Hid.out ?_)
      all_goals try (exfalso; omega)
      refine Lib.hid ?_
      refine wpList_append_own _ rfl _ _ 101 rfl (y + 1) 104 i1 (.agg #[.string ⟨#[]⟩, .string ⟨#[]⟩]) 2 32 Try.underlying101 hic hic0 hic1 hic2 rfl (by decide) _ j _ rfl HOQ.out.crow ⟨wr.heap.size + 1, 0, none⟩ 1 1 [.string x1, .string x2] rfl rfl HN.out (by simp [Value.oneCell']) (by unfold maxLen; omega) (by omega) (by rw [World.size_alloc, World.size_alloc]; omega) ?_
      intro v' w3 hown' hgrow _
      obtain ⟨g', cap', rfl⟩ := ownsRow_succ hown'
      have HOR := Lib.hid (HOQ.out.grownC (cs' := cs.take (j + 1)) hgrow (by rw [HTC.out]; exact hown'))
      clear hown' hgrow p0 p1 p2 p3 p4 p5 g0 g1 g2 g3 g4 g5 l0 l1
      obtain ⟨⟨p0, p1, p2, p3, p4, p5⟩, g0, g1, g2, g3, g4, g5⟩ := HOR.out.pc6
      go_wp2
      have HOT : Hid (OP w (w3.setCell ⟨y, 5, none⟩ (.slice (some ⟨g', 0, none⟩) (j + 1) cap')) b seq o k c2 D y #[.string file, .string name, .string ns, .int .u8 r, .int .u16 gr, .slice (some ⟨g', 0, none⟩) (j + 1) cap'] (some ⟨g', 0, none⟩) (j + 1) cap' (cs.take (j + 1))) := HOR.out.setP 5 _
      go_roundw
      case rel => exact ⟨j + 1, some ⟨g', 0, none⟩, cap', by simp, by omega, HOT.out⟩
      case measure => simp [intOf]; omega
    case neg =>
      obtain rfl : j = cs.length := by omega
      have HOP : Hid (OP w wr b seq o k c2 D y #[.string file, .string name, .string ns, .int .u8 r, .int .u16 gr, .slice a2 cs.length cc2] a2 cs.length cc2 cs) := by
        have := HOP.out
        rw [List.take_length] at this; exact this
      have q1 := cell_of_at HOP.out.st (i := 1) rfl
      have hy2 : b + 2 < y := HOP.out.hy
      have hbs : b + 2 < wr.heap.size := lt_of_at HOP.out.st
      have hys : y < wr.heap.size := lt_of_at HOP.out.p
      have HN := Lib.hid (news7 wr 103 [.string file, .string name, .string ns, .int .u8 r, .int .u16 gr, .slice a2 cs.length cc2])
      go_wp2_with (at_builtin; refine Hid.out ?_)
      all_goals try (exfalso; omega)
      refine Lib.hid ?_
      refine wpList_append_lies _ rfl _ _ 51 rfl (b + 3) 103 i0 (.agg #[.string ⟨#[]⟩, .string ⟨#[]⟩, .string ⟨#[]⟩, .int .u8 0, .int .u16 0, .slice none 0 0]) 6 80 Try.underlying51 hi hz0 hz1 hz2 rfl (by decide) _ k _ rfl (World.ownsRow.alloc HOP.out.row _) ⟨wr.heap.size, 0, none⟩ 1 1 [.string file, .string name, .string ns, .int .u8 r, .int .u16 gr, .slice a2 cs.length cc2] rfl rfl HN.out (by simp [Value.oneCell']) (by decide) (by unfold maxLen; omega) (by omega) (by rw [World.size_alloc]; omega) _ rfl ?_
      intro g' cap' w8 hown' hgrow hat _
      have HND : Hid (OS w (w8.setCell ⟨b + 2, 1, none⟩ (.slice (some ⟨g', 0, none⟩) (k + 1) cap')) b seq (some ⟨g', 0, none⟩) (k + 1) cap' (D ++ [(⟨⟨file, name, ns, r, gr, cs⟩, a2, cc2⟩ : M2)])) :=
        (HOP.out.fresh ((Fresh.refl wr).alloc _)).grownP (m := ⟨⟨file, name, ns, r, gr, cs⟩, a2, cc2⟩) rfl rfl rfl hgrow (by rw [m2s_snoc]; exact hown')
      have hyk : w8.cell? ⟨b + 2, 1, none⟩ = some (.slice o k c2) ∧ w8.frozen? ⟨b + 2, 1, none⟩ = false := by
        have hlt : ∀ g, (Value.slice o k c2).ownBlock = some g → b + 3 ≤ g := fun g e => (World.ownsRow.lt HOP.out.row g e).1
        have h1 := (hgrow.block (b + 2) (by rw [World.size_alloc]; omega) (fun e => by have := hlt (b + 2) e.symm; omega)).trans (at_alloc HOP.out.st)
        exact ⟨cell_of_at h1 (i := 1) rfl, frozen_of_at h1 1⟩
      obtain ⟨k1, kf⟩ := hyk
      clear hown' hgrow hat q1 p0 p1 p2 p3 p4 p5 g0 g1 g2 g3 g4 g5
      go_wp2
      go_roundw
      case rel =>
        refine ⟨k + 1, some ⟨g', 0, none⟩, cap', D ++ [(⟨⟨file, name, ns, r, gr, cs⟩, a2, cc2⟩ : M2)], by simp, by omega, ?_, ?_, HND.out⟩
        · rw [Hid, List.length_append, HD.out]; rfl
        · rw [Hid, pods2_snoc, HPD.out, HTK.out]
      case measure => simp [intOf]; omega
  case neg =>
    obtain rfl : k = l.length := by omega
    obtain ⟨p0, p1, _⟩ := st2_box HOS.out.st
    obtain ⟨q0, q1, hfz⟩ := st2_box HOS.out.r
    have f0 := hfz 0
    have f1 := hfz 1
    clear hfz
    go_wp2
    all_goals try (exfalso; omega)
    have hpl : (pods2 l).length = l.length := by simp [pods2]
    have hN : w.heap.size ≤ b + 3 := by have := HBW.out; omega
    refine bodyPost_ret (v := st2 seq o l.length c2) (by simp [results, Try.results24, go_sem, st2, *]) rfl ⟨o, c2, D, by rw [HD.out], ?_, ?_, fun m hm => ?_, ?_⟩
    · rw [HPD.out, ← hpl, List.take_length]
    · have hown := HOS.out.row
      rw [HD.out]
      refine World.ownsRow.mono (base := b + 3) ?_ hN
      exact own_set (p := ⟨b + 1, 1, none⟩) (own_set (p := ⟨b + 1, 0, none⟩) hown (by show b + 1 < b + 3; omega) _) (by show b + 1 < b + 3; omega) _
    · refine World.ownsRow.mono (base := b + 3) ?_ hN
      exact own_set (p := ⟨b + 1, 1, none⟩) (own_set (p := ⟨b + 1, 0, none⟩) (HOS.out.each m hm) (by show b + 1 < b + 3; omega) _) (by show b + 1 < b + 3; omega) _
    · exact (HOS.out.fr.setCell (p := ⟨b + 1, 0, none⟩) (by have := HBW.out; show _ ≤ b + 1; omega) _).setCell (p := ⟨b + 1, 1, none⟩) (by have := HBW.out; show _ ≤ b + 1; omega) _
end Go.Proofs.Ytphjhlnjfcfdcaa
namespace Go.Proofs.Ytphjhlnjfcfdcaa
open Go.ChangeShapes Go.WideShapes Go.ChangeAt Go.RowKit
set_option maxRecDepth 100000

def C2.w (c : C2) : Nat := 1 + c.name.size + c.image.size
def P2.w (p : P2) : Nat := 1 + p.file.size + p.name.size + p.ns.size
def cW : Int → List C2 → Int
  | n, [] => n
  | n, c :: l => cW (wrap64 (n + (c.w : Int))) l
def smB : Int → List P2 → Bool
  | _, [] => true
  | n, p :: l => if 20000 < cW (wrap64 (n + (p.w : Int))) p.cs then false else smB (cW (wrap64 (n + (p.w : Int))) p.cs) l
theorem cW_drop {l : List C2} {k : Nat} (h : k < l.length) (n : Int) : cW n (l.drop k) = cW (wrap64 (n + (l[k].w : Int))) (l.drop (k + 1)) := by
  rw [List.drop_eq_getElem_cons h, cW]
theorem smB_drop {l : List P2} {k : Nat} (h : k < l.length) (n : Int) : smB n (l.drop k) = if 20000 < cW (wrap64 (n + (l[k].w : Int))) l[k].cs then false else smB (cW (wrap64 (n + (l[k].w : Int))) l[k].cs) (l.drop (k + 1)) := by
  rw [List.drop_eq_getElem_cons h, smB]
/-! ### where nothing is too great for the machine's sum -/
def csW (l : List C2) : Nat := (l.map C2.w).sum
theorem wrap_nat {n : Nat} (h : n ≤ 4611686018427387904) : wrap64 ((n : Nat) : Int) = (n : Int) := by unfold wrap64; omega
theorem cW_nat : ∀ (l : List C2) (n : Nat), n + csW l ≤ 4611686018427387904 → cW (n : Int) l = ((n + csW l : Nat) : Int)
  | [], n, _ => by simp [cW, csW]
  | c :: l, n, h => by
    have e : csW (c :: l) = c.w + csW l := by simp [csW]
    rw [e] at h ⊢
    rw [cW, show (n : Int) + (c.w : Int) = ((n + c.w : Nat) : Int) from by omega, wrap_nat (by omega), cW_nat l (n + c.w) (by omega), Nat.add_assoc]
theorem csW_mem : ∀ (l : List C2), l.length ≤ csW l ∧ ∀ c ∈ l, c.name.size ≤ csW l ∧ c.image.size ≤ csW l
  | [] => by simp [csW]
  | c :: l => by
    have e : csW (c :: l) = c.w + csW l := by simp [csW]
    obtain ⟨h1, h2⟩ := csW_mem l
    rw [e, List.length_cons]
    have hw : c.w = 1 + c.name.size + c.image.size := rfl
    refine ⟨by omega, fun d hd => ?_⟩
    rcases List.mem_cons.1 hd with rfl | hd
    · omega
    · have := h2 d hd; omega
structure P2.Short (p : P2) : Prop where
  file : p.file.size ≤ 20000
  name : p.name.size ≤ 20000
  ns : p.ns.size ≤ 20000
  len : p.cs.length ≤ 20000
  cs : ∀ c ∈ p.cs, c.name.size ≤ 20000 ∧ c.image.size ≤ 20000
theorem smB_short : ∀ (l : List P2) (n : Nat), n ≤ 20000 → (∀ p ∈ l, p.w + csW p.cs ≤ 2305843009213693952) → smB (n : Int) l = true → l.length + n ≤ 20000 ∧ ∀ p ∈ l, p.Short
  | [], n, hn, _, _ => ⟨by simpa using hn, by simp⟩
  | p :: l, n, hn, hb, h => by
    have hp := hb p List.mem_cons_self
    have hw : p.w = 1 + p.file.size + p.name.size + p.ns.size := rfl
    have e : cW (wrap64 ((n : Int) + (p.w : Int))) p.cs = ((n + p.w + csW p.cs : Nat) : Int) := by
      rw [show (n : Int) + (p.w : Int) = ((n + p.w : Nat) : Int) from by omega, wrap_nat (by omega), cW_nat p.cs (n + p.w) (by omega)]
    rw [smB, e] at h
    split at h
    · simp at h
    · rename_i h1
      obtain ⟨h2, h3⟩ := smB_short l _ (by omega) (fun q hq => hb q (List.mem_cons_of_mem _ hq)) h
      obtain ⟨h4, h5⟩ := csW_mem p.cs
      refine ⟨by rw [List.length_cons]; omega, fun q hq => ?_⟩
      rcases List.mem_cons.1 hq with rfl | hq
      · exact ⟨by omega, by omega, by omega, by omega, fun c hc => by have := h5 c hc; omega⟩
      · exact h3 q hq
set_option maxHeartbeats 4000000 in
theorem small2_any (seq : Int) (a : Option Addr) (l : List M2) (c : Nat) (w : World) (h : Row2 w a l) (hf : ∀ m ∈ l, m.p.Fit 140737488355328) (hl : l.length ≤ maxLen) (hcl : ∀ m ∈ l, m.p.cs.length ≤ maxLen) :
    Calls Try.prog 22 #[st2 seq a l.length c] w fun e w' => e = .returned (.bool (smB 0 (pods2 l))) ∧ Fresh w w' := by
  unfold maxLen at hl
  have HROW := Lib.hid h
  have HFT := Lib.hid hf
  have HCL := Lib.hid hcl
  have HF0 := Lib.hid ((Fresh.refl w).alloc (.cells #[.int .u64 seq, .slice a l.length c] 49))
  have HC : Hid (smB 0 (pods2 l) = smB 0 ((pods2 l).drop 0)) := rfl
  have hpl : (pods2 l).length = l.length := by simp [pods2]
  dsimp only [st2]
  clear h hf hcl
  generalize smB 0 (pods2 l) = E at *
  go_enter Try.func22, Try.ntmps22
  go_wp2
  generalize w.alloc (.cells #[.int .u64 seq, .slice a l.length c] 49) = W0 at *
  go_loopw [3, 11] (fun a3 a11 wr => ∃ (k : Nat) (n : Int), a11 = .int .i64 (k : Int) ∧ a3 = .int .i64 n ∧ k ≤ l.length ∧ Hid (E = smB n ((pods2 l).drop k)) ∧ Hid (Fresh W0 wr)) (fun _ a11 _ => l.length - (intOf a11).toNat)
  case atStart => exact ⟨0, 0, rfl, rfl, Nat.zero_le _, HC.out, Fresh.refl _⟩
  case round =>
  obtain ⟨k, n, rfl, rfl, hk, HE, HF⟩ := hrel
  by_cases hlt : k < l.length
  case pos =>
    have hR := (HROW.out.move HF0.out).move HF.out
    obtain ⟨g, o1, rfl, hc⟩ := m2_form hR.row hlt
    obtain ⟨c0, c1, c2, c3, c4, c5⟩ := hc k hlt
    have HIN := Lib.hid (hR.ins _ (List.getElem_mem hlt)).1
    have HFI := Lib.hid (HFT.out _ (List.getElem_mem hlt))
    have HNL := Lib.hid (HCL.out _ (List.getElem_mem hlt))
    have hkp : k < (pods2 l).length := by omega
    have hpk : (pods2 l)[k] = l[k].p := by simp [pods2]
    have HSTEP : Hid (E = if 20000 < cW (wrap64 (n + (l[k].p.w : Int))) l[k].p.cs then false else smB (cW (wrap64 (n + (l[k].p.w : Int))) l[k].p.cs) ((pods2 l).drop (k + 1))) := by
      have := HE.out.trans (smB_drop hkp n)
      rw [hpk] at this; exact this
    clear hc hR hkp hpk HE
    generalize l[k] = m at *
    obtain ⟨⟨file, name, ns, r, gr, cs⟩, ca, cc⟩ := m
    have y1 : file.size ≤ 140737488355328 := HFI.out.file
    have y2 : name.size ≤ 140737488355328 := HFI.out.name
    have y3 : ns.size ≤ 140737488355328 := HFI.out.ns
    have y4 : cs.length ≤ 9223372036854775807 := HNL.out
    have HFC : Hid (∀ x ∈ cs, x.name.size ≤ 140737488355328 ∧ x.image.size ≤ 140737488355328) := HFI.out.cs
    have HIN : Hid (RowAt wr ca (c2s cs)) := HIN.out
    have HW : Hid (P2.w ⟨file, name, ns, r, gr, cs⟩ = 1 + file.size + name.size + ns.size) := rfl
    have HSTEP : Hid (E = if 20000 < cW (wrap64 (n + (P2.w ⟨file, name, ns, r, gr, cs⟩ : Int))) cs then false else smB (cW (wrap64 (n + (P2.w ⟨file, name, ns, r, gr, cs⟩ : Int))) cs) ((pods2 l).drop (k + 1))) := HSTEP.out
    have hadd : n + (1 + (file.size : Int) + (name.size : Int) + (ns.size : Int)) = n + (P2.w ⟨file, name, ns, r, gr, cs⟩ : Int) := by rw [HW.out]; omega
    dsimp only at *
    have HF1 := Lib.hid ((Fresh.refl wr).alloc (.cells #[.string file, .string name, .string ns, .int .u8 r, .int .u16 gr, .slice ca cs.length cc] 98))
    generalize n + (P2.w ⟨file, name, ns, r, gr, cs⟩ : Int) = s1 at *
    clear HFI HNL HW
    obtain ⟨n1, hn1⟩ : ∃ n1, n1 = wrap64 s1 := ⟨_, rfl⟩
    have HN1 := Lib.hid hn1
    rw [← hn1] at HSTEP
    clear hn1
    go_wp2
    all_goals try (exfalso; omega)
    rw [← HN1.out]
    clear c0 c1 c2 c3 c4 c5 hadd HN1
    generalize wr.alloc (.cells #[.string file, .string name, .string ns, .int .u8 r, .int .u16 gr, .slice ca cs.length cc] 98) = V0 at *
    have HIN := Lib.hid (HIN.out.move HF1.out)
    have HF2 := Lib.hid (HF.out.trans HF1.out)
    generalize hT : cW n1 cs = T at *
    have HT : Hid (T = cW n1 (cs.drop 0)) := hT.symm
    clear hT HF HF1
    go_loopw [3, 32] (fun a3 a32 wv => ∃ (j : Nat) (n2 : Int), a32 = .int .i64 (j : Int) ∧ a3 = .int .i64 n2 ∧ j ≤ cs.length ∧ Hid (T = cW n2 (cs.drop j)) ∧ Hid (Fresh V0 wv)) (fun _ a32 _ => cs.length - (intOf a32).toNat)
    case atStart => exact ⟨0, n1, rfl, rfl, Nat.zero_le _, HT.out, Fresh.refl _⟩
    case round =>
    clear HT
    obtain ⟨j, n2, rfl, rfl, hj, HEJ, HFJ⟩ := hrel
    by_cases hjlt : j < cs.length
    case pos =>
      obtain ⟨gc, oc, rfl, hcc⟩ := c2_form (HIN.out.move HFJ.out) hjlt
      obtain ⟨l0, l1⟩ := hcc j hjlt
      have hx := HFC.out _ (List.getElem_mem hjlt)
      have HST := Lib.hid (HEJ.out.trans (cW_drop hjlt n2))
      clear hcc HEJ
      generalize cs[j] = x at *
      obtain ⟨x1, x2⟩ := x
      have HW : Hid (C2.w ⟨x1, x2⟩ = 1 + x1.size + x2.size) := rfl
      have hadd : n2 + (1 + (x1.size : Int) + (x2.size : Int)) = n2 + (C2.w ⟨x1, x2⟩ : Int) := by rw [HW.out]; omega
      obtain ⟨z1, z2⟩ := hx
      dsimp only at *
      have HFX := Lib.hid (HFJ.out.alloc (.cells #[.string x1, .string x2] 100))
      generalize n2 + (C2.w ⟨x1, x2⟩ : Int) = s3 at *
      clear HW
      go_wp2
      all_goals try (exfalso; omega)
      go_roundw
      case rel => exact ⟨j + 1, wrap64 s3, by simp, rfl, by omega, HST.out, HFX.out⟩
      case measure => simp [intOf]; omega
    case neg =>
      obtain rfl : j = cs.length := by omega
      have HT : Hid (T = n2) := by rw [Hid, HEJ.out, List.drop_of_length_le (Nat.le_refl _)]; rfl
      clear HEJ
      have hT := HT.out
      subst hT
      by_cases h2 : 20000 < T
      · have HR : Hid (E = false) := by rw [Hid, HSTEP.out, if_pos h2]
        clear HSTEP
        go_wp2
        all_goals try (exfalso; omega)
        go_ret
        exact ⟨ret_bool HR.out.symm, (HF0.out.trans HF2.out).trans HFJ.out⟩
      · have HN : Hid (E = smB T ((pods2 l).drop (k + 1))) := by rw [Hid, HSTEP.out, if_neg h2]
        clear HSTEP
        go_wp2
        all_goals try (exfalso; omega)
        go_roundw
        case rel => exact ⟨k + 1, T, by simp, rfl, by omega, HN.out, HF2.out.trans HFJ.out⟩
        case measure => simp [intOf]; omega
  case neg =>
    obtain rfl : k = l.length := by omega
    have HR : Hid (E = true) := by rw [Hid, HE.out, List.drop_of_length_le (by omega)]; rfl
    go_wp2
    all_goals try (exfalso; omega)
    go_ret
    exact ⟨ret_bool HR.out.symm, HF0.out.trans HF.out⟩
end Go.Proofs.Ytphjhlnjfcfdcaa
namespace Go.Proofs.Ytphjhlnjfcfdcaa
open Go.ChangeShapes Go.WideShapes Go.ChangeAt Go.RowKit
set_option maxRecDepth 100000

/-- Blocks that are no builder's stay. -/
def KeepsT (w w' : World) : Prop := ∀ (k : Nat) (cs : Array Value) (t : TypeId), w.heap[k]? = some (Obj.cells cs t) → t ≠ 5 → t ≠ 71 → w'.heap[k]? = some (Obj.cells cs t)
theorem KeepsT.refl (w : World) : KeepsT w w := fun _ _ _ h _ _ => h
theorem copy_any2 (B b : Nat) (l : List UInt8) (w : World) (h : Bld B b l w) :
    Calls Try.prog 71 #[.pointer (some ⟨b, 0, none⟩)] w fun e w' => e = .returned (.tuple #[]) ∧ (Lib.BuilderAt 71 5 B b (.pointer (some ⟨b, 0, none⟩)) (Lib.byteCells l) w' ∧ Below B w w' ∧ KeepsT w w') := by
  rcases h with h | h
  · obtain ⟨hB, v, hbk, _⟩ := id h
    refine (copy_fresh b w h.cell0 h.shape h.frozen0).mono ?_
    rintro e w' ⟨rfl, rfl⟩
    refine ⟨rfl, h.used _, (Below.refl B w).setCell (p := ⟨b, 0, none⟩) h.1 _, fun k cs t hk _ h2 => at_off hk (fun e => ?_) _⟩
    subst e
    rw [hbk] at hk
    cases hk
    exact h2 rfl
  · refine (copy_used b w h.cell0).mono ?_
    rintro e w' ⟨rfl, rfl⟩
    exact ⟨rfl, h, Below.refl B _, .refl _⟩
set_option maxHeartbeats 1000000 in
theorem write_any2 (B b : Nat) (l : List UInt8) (s : ByteArray) (w : World) (h : Bld B b l w) (hlen : l.length + s.size ≤ 140737488355328) (hBw : B ≤ w.heap.size) :
    Calls Try.prog 37 #[.pointer (some ⟨b, 0, none⟩), .string s] w fun e w' => e = .returned (.tuple #[.int .i64 s.size, .nilIface]) ∧ Bld B b (l ++ s.data.toList) w' ∧ Below B w w' ∧ KeepsT w w' := by
  obtain ⟨i0, hi, hz0, hz1, hz2⟩ := info_parts info5
  have HC := Lib.hid (copy_any2 B b l w h)
  have hl : (Lib.byteCells l).length = l.length := bytes_len l
  clear h
  go_enter Try.func37, Try.ntmps37
  go_wp2_with (fail)
  refine HC.out.mono ?_
  rintro e w1 ⟨rfl, h1, hb1, hk1⟩
  have HK1 := Lib.hid hk1
  obtain ⟨hB, v, hbk, hown, hne⟩ := h1
  have c0 : w1.cell? ⟨b, 0, none⟩ = some (.pointer (some ⟨b, 0, none⟩)) := by rw [Lib.cell_of_heap hbk]; rfl
  have c1 : w1.cell? ⟨b, 1, none⟩ = some v := by rw [Lib.cell_of_heap hbk]; rfl
  have hsz := hb1.size
  clear hk1
  go_wp2_with (at_builtin; refine Lib.wpList_append_own_string _ rfl _ _ 69 9 rfl B 5 i0 Try.underlying69 Try.underlying9 hi hz0 hz1 hz2 _ _ _ rfl hown s rfl ?c3 ?c4 ?c5 ?_)
  case c3 => unfold maxLen; omega
  case c4 => omega
  case c5 => omega
  intro v' w2 hown' hgrow _
  have hlt : b < w1.heap.size := lt_of_at hbk
  have hb2 : w2.heap[b]? = some (.cells #[.pointer (some ⟨b, 0, none⟩), v] 71 (0, 0)) := by
    rw [hgrow.block b hlt (fun e => hne e.symm)]
    exact hbk
  have HK2 : Hid (∀ u, KeepsT w (w2.setCell ⟨b, 1, none⟩ u)) := fun u k cs t hk n1 n2 => by
    have hk := HK1.out k cs t hk n1 n2
    have hkb : k ≠ b := fun e => by
      subst e
      rw [hbk] at hk
      cases hk
      exact n2 rfl
    refine at_off ((hgrow.block k (lt_of_at hk) (fun e => ?_)).trans hk) hkb _
    rcases hown.2 with ⟨rfl, _⟩ | ⟨g, cap, cur, rfl, _, hg, _⟩
    · cases e
    · have : k = g := by simpa [Value.ownBlock] using e
      subst this
      rw [hg] at hk
      cases hk
      exact n1 rfl
  have d0 : w2.cell? ⟨b, 0, none⟩ = some (.pointer (some ⟨b, 0, none⟩)) := by rw [Lib.cell_of_heap hb2]; rfl
  have d1 : w2.cell? ⟨b, 1, none⟩ = some v := by rw [Lib.cell_of_heap hb2]; rfl
  have f1 : w2.frozen? ⟨b, 1, none⟩ = false := Lib.frozen_of_heap hb2 1
  obtain ⟨ao, n', cap, rfl⟩ : ∃ ao n' cap, v' = .slice ao n' cap := by
    rcases hown'.2 with ⟨hv, _⟩ | ⟨g, cap, cur, hv, _⟩
    · exact ⟨_, _, _, hv⟩
    · exact ⟨_, _, _, hv⟩
  go_wp2
  go_ret2
  refine ⟨rfl, .inr ?_, ?_, HK2.out _⟩
  · refine Lib.BuilderAt.put (T := 71) (e := 5) hB hb2 (bs' := Lib.byteCells (l ++ s.data.toList)) ?_ (by decide)
    have := hown'
    rw [str_cells, bytes_app] at this
    rw [bytes_len, List.length_append]
    rw [← Lib.size_eq]
    exact this
  · exact (hb1.grown hgrow (by omega) (fun k hk => (hown.lt k hk).1)).setCell (p := ⟨b, 1, none⟩) hB _
end Go.Proofs.Ytphjhlnjfcfdcaa
namespace Go.Proofs.Ytphjhlnjfcfdcaa
open Go.ChangeShapes Go.WideShapes Go.ChangeAt Go.RowKit
set_option maxRecDepth 100000

theorem text2_any (s : ByteArray) (w : World) (h : s.size ≤ 4096) : Calls Try.prog 77 #[.string s] w fun e w' => e = .returned (.string (tx (txtL s))) ∧ Fresh w w' := by
  have HT := Lib.hid (fun W => text_ok s W h)
  rw [txt_tx] at HT
  go_enter Try.func77, Try.ntmps77
  go_wp2_with (fail)
  refine (HT.out _).mono ?_
  rintro e w' ⟨rfl, hg⟩
  go_wp2
  go_ret
  exact ⟨rfl, hg⟩
theorem pod2_parts (p : P2) : tx (((txtL p.file ++ txtL p.name ++ txtL p.ns) ++ (be 1 p.r.toNat ++ be 2 p.g.toNat) ++ be 1 p.cs.length) ++ p.cs.flatMap cL) = tx (pod2L p) := by
  rw [pod2L]; simp only [List.append_assoc]
set_option maxHeartbeats 8000000 in
theorem podB2_any (m : M2) (w : World) (hin : m.In w) (hp : m.p.Fit 255) (hl : m.p.cs.length ≤ 16) : Calls Try.prog 54 #[m.val] w fun e w' => e = .returned (.string (tx (pod2L m.p))) ∧ Fresh w w' := by
  have HPP := Lib.hid (pod2_parts m.p)
  obtain ⟨⟨file, name, ns, r, g, cs⟩, a, c⟩ := m
  have HFC : Hid (∀ x ∈ cs, x.name.size ≤ 255 ∧ x.image.size ≤ 255) := hp.cs
  have H1 := Lib.hid (fun W => text2_any file W (Nat.le_trans hp.file (by decide)))
  have H2 := Lib.hid (fun W => text2_any name W (Nat.le_trans hp.name (by decide)))
  have H3 := Lib.hid (fun W => text2_any ns W (Nat.le_trans hp.ns (by decide)))
  have hr0 : 0 ≤ r := hp.r0
  have hr1 : r ≤ 255 := hp.r1
  have hg0 : 0 ≤ g := hp.g0
  have hg1 : g ≤ 65535 := hp.g1
  have H4 := Lib.hid (fun W => put_yes 1 r W (by decide) hr0 (by omega))
  have H5 := Lib.hid (fun W => put_yes 2 g W (by decide) hg0 (by omega))
  have H6 := Lib.hid (fun W => put_yes 1 (cs.length : Int) W (by decide) (by omega) (by have : cs.length ≤ 16 := hl; omega))
  have z1 : (tx (txtL file)).size ≤ 300 := by rw [tx_size, txtL_len]; have := hp.file; dsimp only at this; omega
  have z2 : (tx (txtL name)).size ≤ 300 := by rw [tx_size, txtL_len]; have := hp.name; dsimp only at this; omega
  have z3 : (tx (txtL ns)).size ≤ 300 := by rw [tx_size, txtL_len]; have := hp.ns; dsimp only at this; omega
  have z4 : (beS 1 r.toNat).size = 1 := beS_size _ _
  have z5 : (beS 2 g.toNat).size = 2 := beS_size _ _
  have z6 : (beS 1 cs.length).size = 1 := beS_size _ _
  have hw1 := wrap_byte hr0 hr1
  have hw2 := wrap_u64' hg0 (by omega)
  have hw3 : IntKind.u64.wrap (cs.length : Int) = (cs.length : Int) := wrap_u64' (by omega) (by have : cs.length ≤ 16 := hl; omega)
  have HROW : Hid (RowAt w a (c2s cs)) := hin.1
  have hl16 : cs.length ≤ 16 := hl
  dsimp only [M2.val] at *
  rw [show (1 : Int).toNat = 1 from rfl] at H4
  rw [show (2 : Int).toNat = 2 from rfl] at H5
  rw [show (1 : Int).toNat = 1 from rfl, Int.toNat_natCast] at H6
  clear hp hin hl
  have HL1 : Hid ((tx (txtL file) ++ tx (txtL name) ++ tx (txtL ns)).data.toList = txtL file ++ txtL name ++ txtL ns) := by
    rw [Hid, tx_app, tx_app, tx_toList]
  have HL2 : Hid ((beS 1 r.toNat ++ beS 2 g.toNat).data.toList = be 1 r.toNat ++ be 2 g.toNat) := by
    rw [Hid, beS_tx, beS_tx, tx_app, tx_toList]
  have HL3 : Hid ((beS 1 cs.length).data.toList = be 1 cs.length) := by rw [Hid, beS_tx, tx_toList]
  rw [← HL1.out, ← HL2.out, ← HL3.out] at HPP
  clear HL1 HL2 HL3
  generalize tx (txtL file) = A at *
  generalize tx (txtL name) = B at *
  generalize tx (txtL ns) = C at *
  generalize beS 1 r.toNat = D at *
  generalize beS 2 g.toNat = E at *
  generalize beS 1 cs.length = F at *
  rw [← HPP.out]
  have s1 : (A ++ B).size ≤ 600 := by rw [ByteArray.size_append]; omega
  have s2 : (A ++ B ++ C).size ≤ 900 := by rw [ByteArray.size_append]; omega
  have s3 : (D ++ E).size = 3 := by rw [ByteArray.size_append]; omega
  have a1 := add_run A B _ (by omega) rfl
  have a2 := add_run (A ++ B) C _ (by omega) rfl
  have a3 := add_run D E _ (by omega) rfl
  generalize A ++ B ++ C = ABC at *
  generalize A ++ B = AB at *
  generalize D ++ E = DE at *
  clear HPP
  have HA := Lib.hid (at_new w (.cells #[.string file, .string name, .string ns, .int .u8 r, .int .u16 g, .slice a cs.length c] 98))
  have HF0 := Lib.hid ((Fresh.refl w).alloc (.cells #[.string file, .string name, .string ns, .int .u8 r, .int .u16 g, .slice a cs.length c] 98))
  have HROW := Lib.hid (HROW.out.move HF0.out)
  have HBL := Lib.hid (bld_new (w.alloc (.cells #[.string file, .string name, .string ns, .int .u8 r, .int .u16 g, .slice a cs.length c] 98)))
  have hW : Fresh (w.alloc (.cells #[.string file, .string name, .string ns, .int .u8 r, .int .u16 g, .slice a cs.length c] 98)) ((w.alloc (.cells #[.string file, .string name, .string ns, .int .u8 r, .int .u16 g, .slice a cs.length c] 98)).alloc (.cells #[.pointer none, .slice none 0 0] 71)) := (Fresh.refl _).alloc _
  have HW0 := Lib.hid hW
  clear hW
  go_enter Try.func54, Try.ntmps54
  go_wp2_with (fail)
  obtain ⟨z, hz⟩ : ∃ z, z = w.heap.size := ⟨_, rfl⟩
  obtain ⟨b, hb⟩ : ∃ b, b = (w.alloc (.cells #[.string file, .string name, .string ns, .int .u8 r, .int .u16 g, .slice a cs.length c] 98)).heap.size := ⟨_, rfl⟩
  have hbz : b = z + 1 := by rw [hb, World.size_alloc, hz]
  have hb2 : w.heap.size + 1 = b := by omega
  rw [← hb] at HBL
  rw [← hz] at HA hb2
  rw [← hz]
  have HBB := Lib.hid hb
  rw [hb2]
  clear hz hb hb2 hbz
  generalize w.alloc (.cells #[.string file, .string name, .string ns, .int .u8 r, .int .u16 g, .slice a cs.length c] 98) = V0 at *
  generalize V0.alloc (.cells #[.pointer none, .slice none 0 0] 71) = W1 at *
  have HKP : Hid (∀ W, Fresh V0 W → W.cell? ⟨z, 0, none⟩ = some (.string file) ∧ W.cell? ⟨z, 1, none⟩ = some (.string name) ∧ W.cell? ⟨z, 2, none⟩ = some (.string ns) ∧ W.cell? ⟨z, 3, none⟩ = some (.int .u8 r) ∧ W.cell? ⟨z, 4, none⟩ = some (.int .u16 g) ∧ W.cell? ⟨z, 5, none⟩ = some (.slice a cs.length c)) := fun W f =>
    (m2_box (m := ⟨⟨file, name, ns, r, g, cs⟩, a, c⟩) (f.at HA.out)).1
  obtain ⟨k0, k1, k2, k3, k4, k5⟩ := HKP.out W1 HW0.out
  have HW : Hid (Fresh V0 W1.drew) := HW0.out.drew
  have HB : Hid (Bld b b [] W1.drew) := HBL.out
  have HBW : Hid (∀ W, Fresh V0 W → b ≤ W.heap.size) := fun W f => by rw [HBB.out]; exact f.size
  have HBV : Hid (V0.heap.size ≤ b) := by rw [Hid, HBB.out]; exact Nat.le_refl _
  have HLN : Hid (([] : List UInt8).length + ABC.size ≤ 140737488355328) := by rw [Hid, List.length_nil]; omega
  clear HBL HA
  go_region_held3 (fun w' => (w'.cell? ⟨z, 0, none⟩ = some (.string file) ∧ w'.cell? ⟨z, 1, none⟩ = some (.string name) ∧ w'.cell? ⟨z, 2, none⟩ = some (.string ns))) (go_keep)
    (first
      | (go_at_call 77; (with_reducible refine (H1.out _).mono ?_); rintro e W2 ⟨rfl, hf⟩; have HB := Lib.hid (HB.out.fresh hf); have HW := Lib.hid (HW.out.trans hf); obtain ⟨k0, k1, k2, k3, k4, k5⟩ := HKP.out _ HW.out; clear hf)
      | (go_at_call 77; (with_reducible refine (H2.out _).mono ?_); rintro e W2 ⟨rfl, hf⟩; have HB := Lib.hid (HB.out.fresh hf); have HW := Lib.hid (HW.out.trans hf); obtain ⟨k0, k1, k2, k3, k4, k5⟩ := HKP.out _ HW.out; clear hf)
      | (go_at_call 77; (with_reducible refine (H3.out _).mono ?_); rintro e W2 ⟨rfl, hf⟩; have HB := Lib.hid (HB.out.fresh hf); have HW := Lib.hid (HW.out.trans hf); obtain ⟨k0, k1, k2, k3, k4, k5⟩ := HKP.out _ HW.out; clear hf)
      | (go_at_call 37; (with_reducible refine (write_any b b [] ABC _ HB.out HLN.out (HBW.out _ HW.out)).mono ?_); rintro e W2 ⟨rfl, hb3, hf⟩; have HB := Lib.hid hb3; have HW := Lib.hid (HW.out.below hf HBV.out); obtain ⟨k0, k1, k2, k3, k4, k5⟩ := HKP.out _ HW.out; clear hf hb3))
  have HB : Hid (Bld b b ABC.data.toList W2.drew) := HB.out
  have HW : Hid (Fresh V0 W2.drew) := HW.out.drew
  have HLN3 : Hid (ABC.data.toList.length + DE.size ≤ 140737488355328) := by rw [Hid, ← Lib.size_eq]; omega
  go_wp2_with (fail)
  go_region_held3 (fun w' => (w'.cell? ⟨z, 3, none⟩ = some (.int .u8 r) ∧ w'.cell? ⟨z, 4, none⟩ = some (.int .u16 g))) (go_keep)
    (first
      | (go_at_call 38; (with_reducible refine (H4.out _).mono ?_); rintro e W3 ⟨rfl, hf⟩; have HB := Lib.hid (HB.out.fresh hf); have HW := Lib.hid (HW.out.trans hf); obtain ⟨k0, k1, k2, k3, k4, k5⟩ := HKP.out _ HW.out; clear hf)
      | (go_at_call 38; (with_reducible refine (H5.out _).mono ?_); rintro e W3 ⟨rfl, hf⟩; have HB := Lib.hid (HB.out.fresh hf); have HW := Lib.hid (HW.out.trans hf); obtain ⟨k0, k1, k2, k3, k4, k5⟩ := HKP.out _ HW.out; clear hf)
      | (go_at_call 37; (with_reducible refine (write_any b b ABC.data.toList DE _ HB.out HLN3.out (HBW.out _ HW.out)).mono ?_); rintro e W3 ⟨rfl, hb3, hf⟩; have HB := Lib.hid hb3; have HW := Lib.hid (HW.out.below hf HBV.out); obtain ⟨k0, k1, k2, k3, k4, k5⟩ := HKP.out _ HW.out; clear hf hb3))
  have HLN4 : Hid ((ABC.data.toList ++ DE.data.toList).length + F.size ≤ 140737488355328) := by rw [Hid, List.length_append, ← Lib.size_eq, ← Lib.size_eq]; omega
  go_wp2_with (fail)
  refine (H6.out _).mono ?_
  rintro e W4 ⟨rfl, hf⟩
  have HB := Lib.hid (HB.out.fresh hf)
  have HW := Lib.hid (HW.out.trans hf)
  clear hf
  go_wp2_with (fail)
  refine (write_any b b _ F _ HB.out HLN4.out (HBW.out _ HW.out)).mono ?_
  rintro e W5 ⟨rfl, hb5, hf⟩
  have HB := Lib.hid hb5
  have HW := Lib.hid (HW.out.below hf HBV.out)
  obtain ⟨q0, q1, q2, q3, q4, q5⟩ := HKP.out _ HW.out
  have HP0 : Hid ((ABC.data.toList ++ DE.data.toList ++ F.data.toList).length ≤ 1000) := by rw [Hid, List.length_append, List.length_append, ← Lib.size_eq, ← Lib.size_eq, ← Lib.size_eq]; omega
  clear hf hb5 H1 H2 H3 H4 H5 H6 a1 a2 a3 HLN HLN3 HLN4
  obtain ⟨P0, hPE⟩ : ∃ P0, P0 = ABC.data.toList ++ DE.data.toList ++ F.data.toList := ⟨_, rfl⟩
  have HPE := Lib.hid hPE
  rw [← hPE] at HB HP0
  clear hPE
  have HB0 : Hid (Bld b b (P0 ++ (cs.take 0).flatMap cL) W5) := by rw [Hid, List.take_zero, List.flatMap_nil, List.append_nil]; exact HB.out
  go_wp2
  go_loopw [37] (fun a37 wr => ∃ (k : Nat), a37 = .int .i64 (k : Int) ∧ k ≤ cs.length ∧ Hid (Bld b b (P0 ++ (cs.take k).flatMap cL) wr) ∧ Hid (Fresh V0 wr)) (fun a37 _ => cs.length - (intOf a37).toNat)
  case atStart => exact ⟨0, rfl, Nat.zero_le _, HB0.out, HW.out⟩
  case round =>
  clear HB0 HB HW
  obtain ⟨k, rfl, hk, HBk, HF⟩ := hrel
  by_cases hlt : k < cs.length
  case pos =>
    obtain ⟨gc, oc, rfl, hc⟩ := c2_form (HROW.out.move HF.out) hlt
    obtain ⟨l0, l1⟩ := hc k hlt
    have HTK : Hid ((cs.take (k + 1)).flatMap cL = (cs.take k).flatMap cL ++ cL cs[k]) := by
      rw [Hid, List.take_succ_eq_append_getElem hlt, List.flatMap_append]; simp
    have hx := HFC.out _ (List.getElem_mem hlt)
    have HPL : Hid ((P0 ++ (cs.take k).flatMap cL).length ≤ 20000) := by
      have h1 := flat_le cL 514 (cs.take k) (fun c hc => cL_len (HFC.out c (List.mem_of_mem_take hc)))
      have h3 : (cs.take k).length * 514 ≤ 16 * 514 := Nat.mul_le_mul (by rw [List.length_take]; omega) (Nat.le_refl _)
      have := HP0.out
      rw [Hid, List.length_append]
      omega
    clear hc
    generalize cs[k] = x at *
    obtain ⟨x1, x2⟩ := x
    obtain ⟨hx1, hx2⟩ := hx
    dsimp only at hx1 hx2 l0 l1
    have J1 := Lib.hid (fun W => text2_any x1 W (Nat.le_trans hx1 (by decide)))
    have J2 := Lib.hid (fun W => text2_any x2 W (Nat.le_trans hx2 (by decide)))
    have y1 : (tx (txtL x1)).size ≤ 300 := by rw [tx_size, txtL_len]; omega
    have y2 : (tx (txtL x2)).size ≤ 300 := by rw [tx_size, txtL_len]; omega
    have HCL : Hid ((tx (txtL x1) ++ tx (txtL x2)).data.toList = cL ⟨x1, x2⟩) := by rw [Hid, tx_app, tx_toList]; rfl
    generalize tx (txtL x1) = A1 at *
    generalize tx (txtL x2) = A2 at *
    have y3 : (A1 ++ A2).size ≤ 600 := by rw [ByteArray.size_append]; omega
    have a1 := add_run A1 A2 _ (by omega) rfl
    generalize A1 ++ A2 = A12 at *
    have HLk : Hid ((P0 ++ (cs.take k).flatMap cL).length + A12.size ≤ 140737488355328) := by have := HPL.out; rw [Hid]; omega
    have HCB : Hid ((wr.alloc (.cells #[.string x1, .string x2] 100)).heap[wr.heap.size]? = some (.cells #[.string x1, .string x2] 100)) := at_new wr _
    have HW0 : Hid (Fresh V0 (wr.alloc (.cells #[.string x1, .string x2] 100))) := HF.out.alloc _
    have HB0 : Hid (Bld b b (P0 ++ (cs.take k).flatMap cL) (wr.alloc (.cells #[.string x1, .string x2] 100))) := HBk.out.fresh ((Fresh.refl wr).alloc _)
    go_wp2_with (fail)
    all_goals try (exfalso; omega)
    generalize wr.alloc (.cells #[.string x1, .string x2] 100) = X1 at *
    generalize wr.heap.size = cb at *
    have k0 := cell_of_at HCB.out (i := 0) rfl
    have k1 := cell_of_at HCB.out (i := 1) rfl
    have HW : Hid (Fresh V0 X1.drew) := HW0.out.drew
    have HB : Hid (Bld b b (P0 ++ (cs.take k).flatMap cL) X1.drew) := HB0.out
    have HC : Hid (X1.drew.heap[cb]? = some (.cells #[.string x1, .string x2] 100)) := HCB.out
    clear HB0 HW0 HCB
    go_region_held3 (fun w' => (w'.cell? ⟨cb, 0, none⟩ = some (.string x1) ∧ w'.cell? ⟨cb, 1, none⟩ = some (.string x2))) (go_keep)
      (first
        | (go_at_call 77; (with_reducible refine (J1.out _).mono ?_); rintro e W6 ⟨rfl, hf⟩; have HB := Lib.hid (HB.out.fresh hf); have HW := Lib.hid (HW.out.trans hf); have HC := Lib.hid (hf.at HC.out); have k0 := cell_of_at HC.out (i := 0) rfl; have k1 := cell_of_at HC.out (i := 1) rfl; clear hf)
        | (go_at_call 77; (with_reducible refine (J2.out _).mono ?_); rintro e W6 ⟨rfl, hf⟩; have HB := Lib.hid (HB.out.fresh hf); have HW := Lib.hid (HW.out.trans hf); have HC := Lib.hid (hf.at HC.out); have k0 := cell_of_at HC.out (i := 0) rfl; have k1 := cell_of_at HC.out (i := 1) rfl; clear hf)
        | (go_at_call 37; (with_reducible refine (write_any2 b b _ A12 _ HB.out HLk.out (HBW.out _ HW.out)).mono ?_); rintro e W6 ⟨rfl, hb3, hf, hkt⟩; have HB := Lib.hid hb3; have HW := Lib.hid (HW.out.below hf HBV.out); have HC := Lib.hid (hkt _ _ _ HC.out (by decide) (by decide)); have k0 := cell_of_at HC.out (i := 0) rfl; have k1 := cell_of_at HC.out (i := 1) rfl; clear hf hb3 hkt))
    have HN : Hid (Bld b b (P0 ++ (cs.take (k + 1)).flatMap cL) W6) := by
      rw [Hid, HTK.out, ← HCL.out, ← List.append_assoc]; exact HB.out
    go_wp2
    go_roundw
    case rel => exact ⟨k + 1, by simp, by omega, HN.out, HW.out⟩
    case measure => simp [intOf]; omega
  case neg =>
    obtain rfl : k = cs.length := by omega
    have HB9 : Hid (Bld b b (P0 ++ cs.flatMap cL) wr) := by
      have := HBk.out
      rw [List.take_length] at this; exact this
    have HS := Lib.hid (str_any b b (P0 ++ cs.flatMap cL) wr HB9.out (HBW.out _ HF.out))
    go_wp2_with (fail)
    all_goals try (exfalso; omega)
    refine HS.out.mono ?_
    rintro e W8 ⟨rfl, hf8⟩
    have HF9 := Lib.hid ((HF0.out.trans HF.out).below hf8 (Nat.le_trans HF0.out.size HBV.out))
    clear hf8
    go_wp2
    go_ret
    exact ⟨by rw [← HPE.out]; rfl, HF9.out⟩
end Go.Proofs.Ytphjhlnjfcfdcaa
namespace Go.Proofs.Ytphjhlnjfcfdcaa
open Go.ChangeShapes Go.WideShapes Go.ChangeAt Go.RowKit
set_option maxRecDepth 100000

set_option maxHeartbeats 2000000 in
theorem encode2_bad (seq : Int) (a : Option Addr) (l : List M2) (c : Nat) (w : World) (h : Row2 w a l) (hf : ∀ m ∈ l, m.p.Fit maxLen) (hb : chk2 (pods2 l) ≠ 0) :
    Calls Try.prog 26 #[st2 seq a l.length c] w fun e w' => e = .returned (.tuple #[.string ⟨#[]⟩, .int .i64 (chk2 (pods2 l))]) ∧ Fresh w w' := by
  have HF0 := Lib.hid ((Fresh.refl w).alloc (.cells #[.int .u64 seq, .slice a l.length c] 49))
  have HC := Lib.hid (check2_any seq a l c _ (h.move HF0.out) hf)
  dsimp only [st2] at *
  clear h hf
  generalize chk2 (pods2 l) = E at *
  have e0 : (E != 0) = true := by simpa using hb
  clear hb
  go_enter Try.func26, Try.ntmps26
  go_wp2_with (fail)
  refine HC.out.mono ?_
  rintro e w1 ⟨rfl, hf⟩
  have HF := Lib.hid (HF0.out.trans hf)
  clear hf
  go_wp2
  go_ret2
  exact ⟨rfl, HF.out⟩
set_option maxHeartbeats 4000000 in
theorem encode2_ok (seq : Int) (a : Option Addr) (l : List M2) (c : Nat) (w : World) (h : Row2 w a l) (hf : ∀ m ∈ l, m.p.Fit maxLen) (h0 : chk2 (pods2 l) = 0) (hs0 : 0 ≤ seq) (hs1 : seq ≤ 18446744073709551615) :
    Calls Try.prog 26 #[st2 seq a l.length c] w fun e w' => e = .returned (.tuple #[.string (tx (enc2L seq (pods2 l))), .int .i64 0]) ∧ Fresh w w' := by
  have hA := at_new w (.cells #[.int .u64 seq, .slice a l.length c] 49)
  have HF0 := Lib.hid ((Fresh.refl w).alloc (.cells #[.int .u64 seq, .slice a l.length c] 49))
  have hck := check2_any seq a l c _ (h.move HF0.out) hf
  rw [h0] at hck
  have HC := Lib.hid hck
  have hpl : (pods2 l).length = l.length := by simp [pods2]
  have hnum : ∀ p ∈ pods2 l, p.Num := fun p hp => by
    obtain ⟨m, hm, rfl⟩ := List.mem_map.1 hp
    have := hf m hm
    exact ⟨this.r0, this.r1, this.g0, this.g1⟩
  obtain ⟨hlen, hfit⟩ := chk2_fit h0 hnum
  rw [hpl] at hlen
  have HFT := Lib.hid hfit
  have HROW := Lib.hid (h.move HF0.out)
  have HENC : Hid (enc2L seq (pods2 l) = be 8 seq.toNat ++ (be 2 l.length ++ (pods2 l).flatMap pod2L)) := by rw [Hid, enc2L, hpl]
  have HP8 := Lib.hid (fun W => put_yes 8 seq W (by decide) hs0 (by omega))
  have HP2 := Lib.hid (fun W => put_yes 2 (l.length : Int) W (by decide) (by omega) (by omega))
  have hw2 : IntKind.u64.wrap (l.length : Int) = (l.length : Int) := wrap_u64' (by omega) (by omega)
  have HA := Lib.hid hA
  rw [show (8 : Int).toNat = 8 from rfl] at HP8
  rw [show (2 : Int).toNat = 2 from rfl, Int.toNat_natCast] at HP2
  dsimp only [st2] at *
  clear h hf h0 hck hfit hA hnum
  go_enter Try.func26, Try.ntmps26
  go_wp2_with (fail)
  refine HC.out.mono ?_
  rintro e w1 ⟨rfl, hf⟩
  obtain ⟨q0, q1, _⟩ := st2_box (hf.at HA.out)
  have HF1 := Lib.hid (HF0.out.trans hf)
  have HROW1 := Lib.hid (HROW.out.move hf)
  have HA1 := Lib.hid (hf.at HA.out)
  have hBL := bld_new w1
  have HF2 := Lib.hid ((Fresh.refl w1).alloc (.cells #[.pointer none, .slice none 0 0] 71))
  have HA2 := Lib.hid (at_alloc (p := .cells #[.pointer none, .slice none 0 0] 71) HA1.out)
  have HBL := Lib.hid hBL
  have hzl := lt_of_at HA1.out
  clear hf hBL HROW HA HC
  obtain ⟨z, hz⟩ : ∃ z, z = w.heap.size := ⟨_, rfl⟩
  rw [← hz] at q0 q1 HA1 HA2 hzl ⊢
  clear hz
  go_wp2_with (fail)
  refine (HP8.out _).mono ?_
  rintro e w2 ⟨rfl, hf2⟩
  have HW := Lib.hid (HF2.out.trans hf2)
  have HB := Lib.hid (HBL.out.fresh hf2)
  have HAk := Lib.hid (hf2.at HA2.out)
  clear hf2 HBL HF2 HA2 q0 q1 hzl
  obtain ⟨b, hb⟩ : ∃ b, b = w1.heap.size := ⟨_, rfl⟩
  have HBB := Lib.hid hb
  rw [← hb] at HB ⊢
  clear hb
  go_wp2_with (fail)
  refine (write_any b b [] (beS 8 seq.toNat) _ HB.out (by rw [beS_size]; simp) (by have := HW.out.size; rw [HBB.out]; exact this)).mono ?_
  rintro e w3 ⟨rfl, hb3, hf3⟩
  have HW := Lib.hid (HW.out.below hf3 (by rw [HBB.out]; exact Nat.le_refl _))
  have HB := Lib.hid hb3
  obtain ⟨q0, q1, _⟩ := st2_box (HW.out.at HA1.out)
  clear hf3 hb3
  go_wp2_with (fail)
  refine (HP2.out _).mono ?_
  rintro e w4 ⟨rfl, hf4⟩
  have HW := Lib.hid (HW.out.trans hf4)
  have HB := Lib.hid (HB.out.fresh hf4)
  clear hf4 q0 q1
  go_wp2_with (fail)
  refine (write_any b b _ (beS 2 l.length) _ HB.out (by rw [beS_size]; simp [beS, be_length]) (by have := HW.out.size; rw [HBB.out]; exact this)).mono ?_
  rintro e w5 ⟨rfl, hb5, hf5⟩
  have HW := Lib.hid (HW.out.below hf5 (by rw [HBB.out]; exact Nat.le_refl _))
  have HB : Hid (Bld b b (be 8 seq.toNat ++ (be 2 l.length ++ ((pods2 l).take 0).flatMap pod2L)) w5) := by
    simpa [Hid, beS] using hb5
  obtain ⟨q0, q1, _⟩ := st2_box (HW.out.at HA1.out)
  clear hf5 hb5
  go_wp2
  clear q0 q1
  go_loopw [26] (fun a26 wr => ∃ (k : Nat), a26 = .int .i64 (k : Int) ∧ k ≤ l.length ∧ Hid (Bld b b (be 8 seq.toNat ++ (be 2 l.length ++ ((pods2 l).take k).flatMap pod2L)) wr) ∧ Hid (Fresh w1 wr)) (fun a26 _ => l.length - (intOf a26).toNat)
  case atStart => exact ⟨0, rfl, Nat.zero_le _, HB.out, HW.out⟩
  case round =>
    obtain ⟨k, rfl, hk, HBk, HF⟩ := hrel
    by_cases hlt : k < l.length
    · have hR := HROW1.out.move HF.out
      obtain ⟨g, o1, rfl, hc⟩ := m2_form hR.row hlt
      obtain ⟨c0, c1, c2, c3, c4, c5⟩ := hc k hlt
      have hkp : k < (pods2 l).length := by omega
      have hpk : (pods2 l)[k] = l[k].p := by simp [pods2]
      have hfi := HFT.out _ (List.getElem_mem hkp)
      rw [hpk] at hfi
      have HIN := Lib.hid (hR.ins _ (List.getElem_mem hlt))
      have HPB := Lib.hid (fun W (f : Fresh wr W) => podB2_any l[k] W (HIN.out.move f) hfi.1 hfi.2)
      have HTK : Hid (((pods2 l).take (k + 1)).flatMap pod2L = ((pods2 l).take k).flatMap pod2L ++ pod2L l[k].p) := by
        rw [Hid, List.take_succ_eq_append_getElem hkp, List.flatMap_append, hpk]; simp
      have HLN : Hid ((be 8 seq.toNat ++ (be 2 l.length ++ ((pods2 l).take k).flatMap pod2L)).length + (tx (pod2L l[k].p)).size ≤ 140737488355328) := by
        have h1 := flat_le pod2L 9000 ((pods2 l).take k) (fun p hp => pod2L_len (HFT.out p (List.mem_of_mem_take hp)).1 (HFT.out p (List.mem_of_mem_take hp)).2)
        have h2 := pod2L_len hfi.1 hfi.2
        have h3 : ((pods2 l).take k).length * 9000 ≤ 1024 * 9000 := Nat.mul_le_mul (by rw [List.length_take]; omega) (Nat.le_refl _)
        rw [Hid, tx_size]
        simp only [List.length_append, be_length]
        omega
      clear hc hR hkp hpk hfi HIN
      have HPL := Lib.hid (tx_toList (pod2L l[k].p))
      generalize tx (pod2L l[k].p) = PB at *
      generalize pod2L l[k].p = PL at *
      generalize l[k] = m at *
      obtain ⟨⟨file, name, ns, r, gr, cs⟩, ca, cc⟩ := m
      dsimp only [M2.val] at *
      generalize cs.length = n at *
      have HF1 := Lib.hid ((Fresh.refl wr).alloc (.cells #[.string file, .string name, .string ns, .int .u8 r, .int .u16 gr, .slice ca n cc] 98))
      go_wp2_with (fail)
      all_goals try (exfalso; omega)
      refine (HPB.out _ HF1.out).mono ?_
      rintro e w6 ⟨rfl, hf6⟩
      have HFq := Lib.hid (HF1.out.trans hf6)
      have HB6 := Lib.hid (HBk.out.fresh HFq.out)
      have HFr := Lib.hid (HF.out.trans HFq.out)
      clear hf6 HF1
      go_wp2_with (fail)
      refine (write_any b b _ PB _ HB6.out HLN.out (by have := HFr.out.size; rw [HBB.out]; exact this)).mono ?_
      rintro e w7 ⟨rfl, hb7, hf7⟩
      have HW7 := Lib.hid (HFr.out.below hf7 (by rw [HBB.out]; exact Nat.le_refl _))
      have HB7 : Hid (Bld b b (be 8 seq.toNat ++ (be 2 l.length ++ ((pods2 l).take (k + 1)).flatMap pod2L)) w7) := by
        rw [Hid, HTK.out, ← List.append_assoc, ← List.append_assoc, ← HPL.out]
        simpa [List.append_assoc] using hb7
      clear hf7 hb7
      go_wp2
      go_roundw
      case rel => exact ⟨k + 1, by simp, by omega, HB7.out, HW7.out⟩
      case measure => simp [intOf]; omega
    · obtain rfl : k = l.length := by omega
      have HB9 : Hid (Bld b b (enc2L seq (pods2 l)) wr) := by
        have := HBk.out
        rw [List.take_of_length_le (by omega)] at this
        rw [Hid, HENC.out]; exact this
      have HS := Lib.hid (str_any b b (enc2L seq (pods2 l)) wr HB9.out (by have := HF.out.size; rw [HBB.out]; exact this))
      go_wp2_with (fail)
      all_goals try (exfalso; omega)
      refine HS.out.mono ?_
      rintro e w8 ⟨rfl, hf8⟩
      have HF9 := Lib.hid ((HF1.out.trans HF.out).below hf8 (by rw [HBB.out]; exact HF1.out.size))
      clear hf8
      go_wp2
      go_ret2
      exact ⟨rfl, HF9.out⟩
end Go.Proofs.Ytphjhlnjfcfdcaa
namespace Go.Proofs.Ytphjhlnjfcfdcaa
open Go.ChangeShapes Go.WideShapes Go.ChangeAt Go.RowKit
set_option maxRecDepth 100000

theorem ex2_bytes : tx (enc2L 1 []) = ⟨#[0, 0, 0, 0, 0, 0, 0, 1, 0, 0]⟩ := by decide +kernel
theorem ex2_encode (w : World) : Calls Try.prog 26 #[.agg #[.int .u64 1, .slice none 0 0]] w fun e w' => e = .returned (.tuple #[.string ⟨#[0, 0, 0, 0, 0, 0, 0, 1, 0, 0]⟩, .int .i64 0]) ∧ Fresh w w' := by
  have := encode2_ok 1 none [] 0 w (.nil _ _) (by simp) rfl (by decide) (by decide)
  rw [show pods2 [] = [] from rfl, ex2_bytes] at this
  exact this
theorem awake18_any (w : World) : Calls Try.prog 23 #[] w fun e w' => e = .returned (.bool true) ∧ Fresh w w' := by
  have H1 := Lib.hid (fun W => ex2_encode W)
  have H2 := Lib.hid (fun W => awake17_any W)
  go_enter Try.func23, Try.ntmps23
  go_wp2_with (fail)
  refine (H1.out _).mono ?_
  rintro e w1 ⟨rfl, hf⟩
  have HF := Lib.hid hf
  clear hf
  go_wp2_with (fail)
  refine (H2.out _).mono ?_
  rintro e w2 ⟨rfl, hf⟩
  have HF := Lib.hid (HF.out.trans hf)
  clear hf
  go_wp2
  go_ret
  exact ⟨rfl, HF.out⟩
end Go.Proofs.Ytphjhlnjfcfdcaa
