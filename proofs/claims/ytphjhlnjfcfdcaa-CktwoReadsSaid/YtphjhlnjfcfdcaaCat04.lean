/-
  What is wrong with a state of version 1, by package ckone.
  What is wrong with a container, by package cktwo.
  What is wrong with a state of version 2, by package cktwo.
  The pods of version 1 that package ckone takes, and what its Decode returns.
  How many, a container, containers: what package cktwo takes.
  The containers that package cktwo takes.
-/
import Derived.Test.YtphjhlnjfcfdcaaCat02
import Derived.Test.YtphjhlnjfcfdcaaCat03
import Derived.Deep.RegionHeld3
import Derived.Deep.AppendLies
namespace Go.Proofs.Ytphjhlnjfcfdcaa
open Go.ChangeShapes Go.WideShapes Go.ChangeAt Go.RowKit
set_option maxRecDepth 100000

theorem name_tx (s : ByteArray) (w : World) (hs : s.size ≤ maxLen) : Calls Try.prog 63 #[.string s] w fun e w' => e = .returned (.bool (nameB s.data.toList)) ∧ Fresh w w' := by
  have := name_any s.data.toList w (by rw [← Lib.size_eq]; exact hs)
  rwa [tx_of] at this
set_option maxHeartbeats 2000000 in
theorem fault_any (p : P1) (ahead : ByteArray) (w : World) (hp : p.Fit maxLen) :
    Calls Try.prog 41 #[p.val, .string ahead] w fun e w' => e = .returned (.int .i64 (fE p ahead)) ∧ Fresh w w' := by
  obtain ⟨file, name, image, r⟩ := p
  have HFI := Lib.hid (fun W => file_any file W hp.file)
  have HNM := Lib.hid (fun W => name_tx name W hp.name)
  have HIM := Lib.hid (fun W => image_any image W hp.image)
  have HE : Hid (fE ⟨file, name, image, r⟩ ahead = if fileB file = true ∧ nameB name.data.toList = true then (if imgB image.data.toList = true ∧ leS file ahead = false then (if 2 < r then 7 else 0) else 6) else 13) := rfl
  have HLE : Hid (leS file ahead = (Op.bytesLess file.toList ahead.toList || file.toList == ahead.toList)) := rfl
  have hr0 : 0 ≤ r := hp.r0
  have hr1 : r ≤ 255 := hp.r1
  have HA := Lib.hid (at_new w (.cells #[.string file, .string name, .string image, .int .u8 r] 66))
  have HF0 := Lib.hid ((Fresh.refl w).alloc (.cells #[.string file, .string name, .string image, .int .u8 r] 66))
  dsimp only [P1.val]
  clear hp
  generalize fE ⟨file, name, image, r⟩ ahead = E at *
  generalize leS file ahead = L at *
  generalize hx1 : Op.bytesLess file.toList ahead.toList = x1 at *
  generalize hx2 : (file.toList == ahead.toList) = x2 at *
  cases hf : fileB file with
  | false =>
    rw [hf] at HFI
    have HR : Hid (E = 13) := by rw [Hid, HE.out, if_neg (by rw [hf]; simp)]
    clear HE hf hx1 hx2
    go_enter Try.func41, Try.ntmps41
    go_wp2_with (fail)
    refine (HFI.out _).mono ?_
    rintro e w1 ⟨rfl, rfl⟩
    go_wp2
    go_ret
    exact ⟨ret_int HR.out.symm, HF0.out⟩
  | true =>
    rw [hf] at HFI
    cases hn : nameB name.data.toList with
    | false =>
      rw [hn] at HNM
      have HR : Hid (E = 13) := by rw [Hid, HE.out, if_neg (by rw [hn]; simp)]
      clear HE hf hn hx1 hx2
      go_enter Try.func41, Try.ntmps41
      go_wp2_with (fail)
      refine (HFI.out _).mono ?_
      rintro e w1 ⟨rfl, rfl⟩
      go_wp2_with (fail)
      refine (HNM.out _).mono ?_
      rintro e w1 ⟨rfl, hf⟩
      have HF := Lib.hid (HF0.out.trans hf)
      clear hf
      go_wp2
      go_ret
      exact ⟨ret_int HR.out.symm, HF.out⟩
    | true =>
      rw [hn] at HNM
      have HE2 : Hid (E = if imgB image.data.toList = true ∧ L = false then (if 2 < r then 7 else 0) else 6) := by rw [Hid, HE.out, if_pos ⟨hf, hn⟩]
      clear HE hf hn
      go_enter Try.func41, Try.ntmps41
      go_wp2_with (fail)
      refine (HFI.out _).mono ?_
      rintro e w1 ⟨rfl, rfl⟩
      go_wp2_with (fail)
      refine (HNM.out _).mono ?_
      rintro e w1 ⟨rfl, hf⟩
      obtain ⟨⟨q0, q1, q2, q3⟩, _⟩ := p1_box (p := ⟨file, name, image, r⟩) (hf.at HA.out)
      have HF := Lib.hid (HF0.out.trans hf)
      clear hf HA HF0
      obtain ⟨b, hb⟩ : ∃ b, b = w.heap.size := ⟨_, rfl⟩
      rw [← hb] at q0 q1 q2 q3 ⊢
      clear hb
      go_wp2_with (fail)
      refine (HIM.out _).mono ?_
      rintro e w2 ⟨rfl, rfl⟩
      cases hi : imgB image.data.toList with
      | false =>
        have HR : Hid (E = 6) := by rw [Hid, HE2.out, if_neg (by rw [hi]; simp)]
        clear HE2 hi
        go_wp2
        go_ret
        exact ⟨ret_int HR.out.symm, HF.out⟩
      | true =>
        have HE3 : Hid (E = if L = false then (if 2 < r then 7 else 0) else 6) := by rw [Hid, HE2.out]; simp only [hi, true_and]
        clear HE2 hi
        cases hl : (x1 || x2) with
        | true =>
          have HR : Hid (E = 6) := by rw [Hid, HE3.out, HLE.out, hl]; simp
          clear HE3 HLE
          cases x1 <;> cases x2 <;> simp at hl <;> (go_wp2; go_ret; exact ⟨ret_int HR.out.symm, HF.out⟩)
        | false =>
          have HE4 : Hid (E = if 2 < r then 7 else 0) := by rw [Hid, HE3.out, HLE.out, hl]; simp
          clear HE3 HLE
          simp only [Bool.or_eq_false_iff] at hl
          obtain ⟨rfl, rfl⟩ := hl
          by_cases h2 : 2 < r
          · have HR : Hid (E = 7) := by rw [Hid, HE4.out, if_pos h2]
            clear HE4
            go_wp2
            go_ret
            exact ⟨ret_int HR.out.symm, HF.out⟩
          · have HR : Hid (E = 0) := by rw [Hid, HE4.out, if_neg h2]
            clear HE4
            go_wp2
            go_ret
            exact ⟨ret_int HR.out.symm, HF.out⟩
set_option maxHeartbeats 2000000 in
theorem check_any (seq : Int) (a : Option Addr) (l : List P1) (c : Nat) (w : World) (h : RowAt w a (p1s l)) (hf : ∀ p ∈ l, p.Fit maxLen) :
    Calls Try.prog 14 #[st1 seq a l.length c] w fun e w' => e = .returned (.int .i64 (chk1 l)) ∧ Fresh w w' := by
  have HROW := Lib.hid h
  have HFT := Lib.hid hf
  have HC : Hid (chk1 l = if 1024 < l.length then 18 else chkF (aheadOf l 0) (l.drop 0)) := rfl
  have HA := Lib.hid (at_new w (.cells #[.int .u32 seq, .slice a l.length c] 25))
  have HF0 := Lib.hid ((Fresh.refl w).alloc (.cells #[.int .u32 seq, .slice a l.length c] 25))
  dsimp only [st1]
  clear h hf
  generalize chk1 l = E at *
  by_cases hm : 1024 < l.length
  · have HR : Hid (E = 18) := by rw [Hid, HC.out, if_pos hm]
    clear HC
    go_enter Try.func14, Try.ntmps14
    go_wp2
    all_goals try (exfalso; omega)
    go_ret
    exact ⟨ret_int HR.out.symm, HF0.out⟩
  · have HC2 : Hid (E = chkF (aheadOf l 0) (l.drop 0)) := by rw [Hid, HC.out, if_neg hm]
    clear HC
    go_enter Try.func14, Try.ntmps14
    go_wp2
    all_goals try (exfalso; omega)
    generalize w.alloc (.cells #[.int .u32 seq, .slice a l.length c] 25) = W0 at *
    go_loopw [3, 14] (fun a3 a14 wr => ∃ (k : Nat), a14 = .int .i64 (k : Int) ∧ a3 = .string (aheadOf l k) ∧ k ≤ l.length ∧ Hid (E = chkF (aheadOf l k) (l.drop k)) ∧ Hid (Fresh W0 wr)) (fun _ a14 _ => l.length - (intOf a14).toNat)
    case atStart => exact ⟨0, rfl, rfl, Nat.zero_le _, HC2.out, Fresh.refl _⟩
    case round =>
      obtain ⟨k, rfl, rfl, hk, HE, HF⟩ := hrel
      by_cases hlt : k < l.length
      · obtain ⟨g, o1, rfl, hc⟩ := p1_form ((HROW.out.move HF0.out).move HF.out) hlt
        obtain ⟨c0, c1, c2, c3⟩ := hc k hlt
        have HFA := Lib.hid (fun W => fault_any l[k] (aheadOf l k) W (HFT.out _ (List.getElem_mem hlt)))
        have HSTEP : Hid (E = if fE l[k] (aheadOf l k) = 0 then chkF l[k].file (l.drop (k + 1)) else fE l[k] (aheadOf l k)) := HE.out.trans (chkF_drop hlt _)
        have HAH := Lib.hid (aheadOf_succ l k hlt)
        clear hc
        generalize fE l[k] (aheadOf l k) = F at *
        generalize aheadOf l k = ah at *
        generalize l[k] = p at *
        obtain ⟨file, name, image, r⟩ := p
        dsimp only [P1.val] at *
        have HP := Lib.hid (at_new wr (.cells #[.string file, .string name, .string image, .int .u8 r] 66))
        have HF1 := Lib.hid ((Fresh.refl wr).alloc (.cells #[.string file, .string name, .string image, .int .u8 r] 66))
        by_cases hF : F = 0
        · subst hF
          have HN : Hid (E = chkF file (l.drop (k + 1))) := by rw [Hid, HSTEP.out, if_pos rfl]
          clear HSTEP
          go_wp2_with (fail)
          all_goals try (exfalso; omega)
          refine (HFA.out _).mono ?_
          rintro e w1 ⟨rfl, hf⟩
          obtain ⟨⟨q0, q1, q2, q3⟩, _⟩ := p1_box (p := ⟨file, name, image, r⟩) (hf.at HP.out)
          have HF2 := Lib.hid ((HF.out.trans HF1.out).trans hf)
          clear hf
          go_wp2
          go_roundw
          case rel => exact ⟨k + 1, by simp, by rw [HAH.out], by omega, by rw [HAH.out]; exact HN.out, HF2.out⟩
          case measure => simp [intOf]; omega
        · have HR : Hid (E = F) := by rw [Hid, HSTEP.out, if_neg hF]
          have e0 : (F == 0) = false := by rw [beq_eq_false_iff_ne]; exact hF
          clear HSTEP
          go_wp2_with (fail)
          all_goals try (exfalso; omega)
          refine (HFA.out _).mono ?_
          rintro e w1 ⟨rfl, hf⟩
          have HF2 := Lib.hid ((HF.out.trans HF1.out).trans hf)
          clear hf
          go_wp2
          all_goals try (exfalso; omega)
          go_ret
          exact ⟨ret_int HR.out.symm, HF0.out.trans HF2.out⟩
      · obtain rfl : k = l.length := by omega
        have HR : Hid (E = 0) := by rw [Hid, HE.out, List.drop_of_length_le (Nat.le_refl _)]; rfl
        go_wp2
        all_goals try (exfalso; omega)
        go_ret
        exact ⟨ret_int HR.out.symm, HF0.out.trans HF.out⟩
end Go.Proofs.Ytphjhlnjfcfdcaa
namespace Go.Proofs.Ytphjhlnjfcfdcaa
open Go.ChangeShapes Go.WideShapes Go.ChangeAt Go.RowKit
set_option maxRecDepth 100000

theorem c2_box {w : World} {b t : Nat} {c : C2} (h : w.heap[b]? = some (.cells #[.string c.name, .string c.image] t)) : w.cell? ⟨b, 0, none⟩ = some (.string c.name) ∧ w.cell? ⟨b, 1, none⟩ = some (.string c.image) ∧ ∀ i, w.frozen? ⟨b, i, none⟩ = false :=
  ⟨cell_of_at h rfl, cell_of_at h rfl, frozen_of_at h⟩
theorem isC_any (d : C2) (s : ByteArray) (b : Nat) (w : World) (hb : w.cell? ⟨b, 0, none⟩ = some (.string s)) :
    Calls Try.prog 95 #[d.val, .pointer (some ⟨b, 0, none⟩)] w fun e w' => e = .returned (.bool (decide (d.name = s))) ∧ Fresh w w' := by
  obtain ⟨nm, im⟩ := d
  have hbl := World.block_lt_of_cell? w _ hb
  have HF := Lib.hid ((Fresh.refl w).alloc (.cells #[.string nm, .string im] 100))
  dsimp only [C2.val] at *
  by_cases h : nm = s
  · subst h
    have HR : Hid (decide (nm = nm) = true) := by rw [Hid, decide_eq_true rfl]
    go_enter Try.func95, Try.ntmps95
    go_wp2
    go_ret
    exact ⟨ret_bool HR.out.symm, HF.out⟩
  · have e1 := tl_ne h
    have HR : Hid (decide (nm = s) = false) := by rw [Hid, decide_eq_false h]
    clear h
    go_enter Try.func95, Try.ntmps95
    go_wp2
    go_ret
    exact ⟨ret_bool HR.out.symm, HF.out⟩
set_option maxHeartbeats 2000000 in
theorem indexC_any (l : List C2) (a : Option Addr) (c : Nat) (s : ByteArray) (b : Nat) (w : World) (hr : RowAt w a (c2s l)) (hb : w.cell? ⟨b, 0, none⟩ = some (.string s)) (hl : l.length ≤ 4000000) :
    Calls Try.prog 101 #[.slice a l.length c, .func (.func 95) #[] #[.pointer (some ⟨b, 0, none⟩)]] w fun e w' => ∃ i : Int, e = .returned (.int .i64 i) ∧ decide (0 ≤ i) = memN s l ∧ Fresh w w' := by
  have HROW := Lib.hid hr
  have HB := Lib.hid hb
  clear hr hb
  go_enter Try.func101, Try.ntmps101
  go_wp2
  go_loopw [8] (fun a8 wr => ∃ (k : Nat), a8 = .int .i64 (k : Int) ∧ k ≤ l.length ∧ Hid (memN s (l.take k) = false) ∧ Hid (Fresh w wr)) (fun a8 _ => l.length - (intOf a8).toNat)
  case atStart => exact ⟨0, rfl, Nat.zero_le _, rfl, Fresh.refl _⟩
  case round =>
    obtain ⟨k, rfl, hk, HM, HF⟩ := hrel
    by_cases hlt : k < l.length
    · obtain ⟨g, o1, rfl, hc⟩ := c2_form (HROW.out.move HF.out) hlt
      obtain ⟨c0, c1⟩ := hc k hlt
      have HCL := Lib.hid (isC_any l[k] s b wr (HF.out.cell HB.out))
      have HTK : Hid (memN s (l.take (k + 1)) = (memN s (l.take k) || decide (l[k].name = s))) := by rw [Hid, memN, List.take_succ_eq_append_getElem hlt, List.any_append]; simp [memN]
      have HYES : Hid (decide (l[k].name = s) = true → memN s l = true) := fun h => by
        unfold memN
        rw [List.any_eq_true]
        exact ⟨l[k], List.getElem_mem hlt, h⟩
      have i1 : (0 : Int) ≤ (k : Int) := by omega
      have i2 : (k : Int) < (l.length : Int) := by omega
      clear hc
      generalize decide (l[k].name = s) = D at *
      generalize l[k] = d at *
      obtain ⟨nm, im⟩ := d
      dsimp only [C2.val] at *
      cases D with
      | true =>
        have HR := Lib.hid (HYES.out rfl)
        clear HYES HTK
        go_wp2_with (fail)
        all_goals try (exfalso; omega)
        refine HCL.out.mono ?_
        rintro e w1 ⟨rfl, hf⟩
        have HF2 := Lib.hid (HF.out.trans hf)
        clear hf
        go_wp2
        go_ret
        exact ⟨_, rfl, by rw [HR.out, decide_eq_true i1], HF2.out⟩
      | false =>
        have HN : Hid (memN s (l.take (k + 1)) = false) := by rw [Hid, HTK.out, HM.out]; rfl
        clear HYES HTK
        go_wp2_with (fail)
        all_goals try (exfalso; omega)
        refine HCL.out.mono ?_
        rintro e w1 ⟨rfl, hf⟩
        have HF2 := Lib.hid (HF.out.trans hf)
        clear hf
        go_wp2
        go_roundw
        case rel => exact ⟨k + 1, by simp, by omega, HN.out, HF2.out⟩
        case measure => simp [intOf]; omega
    · obtain rfl : k = l.length := by omega
      have HR : Hid (memN s l = false) := by have := HM.out; rw [List.take_length] at this; exact this
      go_wp2
      all_goals try (exfalso; omega)
      go_ret
      exact ⟨_, rfl, by rw [HR.out]; rfl, HF.out⟩
theorem containsC_any (l : List C2) (a : Option Addr) (c : Nat) (s : ByteArray) (b : Nat) (w : World) (hr : RowAt w a (c2s l)) (hb : w.cell? ⟨b, 0, none⟩ = some (.string s)) (hl : l.length ≤ 4000000) :
    Calls Try.prog 94 #[.slice a l.length c, .func (.func 95) #[] #[.pointer (some ⟨b, 0, none⟩)]] w fun e w' => e = .returned (.bool (memN s l)) ∧ Fresh w w' := by
  have HI := Lib.hid (indexC_any l a c s b w hr hb hl)
  clear hr hb hl
  generalize l.length = n at *
  generalize memN s l = M at *
  go_enter Try.func94, Try.ntmps94
  go_wp2_with (fail)
  refine HI.out.mono ?_
  rintro e w1 ⟨i, rfl, hi, hf⟩
  go_wp2
  go_ret
  first | exact ⟨rfl, hf⟩ | exact ⟨ret_bool hi, hf⟩
set_option maxHeartbeats 2000000 in
theorem faultC_any (d : C2) (l : List C2) (a : Option Addr) (c : Nat) (w : World) (hr : RowAt w a (c2s l)) (hl : l.length ≤ 4000000) (h1 : d.name.size ≤ maxLen) (h2 : d.image.size ≤ maxLen) :
    Calls Try.prog 78 #[d.val, .slice a l.length c] w fun e w' => e = .returned (.int .i64 (c2E l d)) ∧ Fresh w w' := by
  obtain ⟨nm, im⟩ := d
  have HA := Lib.hid (at_new w (.cells #[.string nm, .string im] 100))
  have HF0 := Lib.hid ((Fresh.refl w).alloc (.cells #[.string nm, .string im] 100))
  have HLB := Lib.hid (fun W => label_any nm W h1)
  have HIM := Lib.hid (fun W => image_any im W h2)
  have HCO := Lib.hid (containsC_any l a c nm w.heap.size _ (hr.move HF0.out) (cell_of_at HA.out rfl) hl)
  have HE : Hid (c2E l ⟨nm, im⟩ = if labB nm.data.toList = true then (if memN nm l = true then 8 else if imgB im.data.toList = true then 0 else 6) else 13) := rfl
  dsimp only [C2.val] at *
  clear hr hl h1 h2
  generalize c2E l ⟨nm, im⟩ = E at *
  generalize memN nm l = M at *
  generalize l.length = n at *
  cases hlb : labB nm.data.toList with
  | false =>
    rw [hlb] at HLB
    have HR : Hid (E = 13) := by rw [Hid, HE.out, if_neg (by rw [hlb]; simp)]
    clear HE hlb
    go_enter Try.func78, Try.ntmps78
    go_wp2_with (fail)
    refine (HLB.out _).mono ?_
    rintro e w1 ⟨rfl, rfl⟩
    go_wp2
    go_ret
    exact ⟨ret_int HR.out.symm, HF0.out⟩
  | true =>
    rw [hlb] at HLB
    have HE2 : Hid (E = if M = true then 8 else if imgB im.data.toList = true then 0 else 6) := by rw [Hid, HE.out, if_pos hlb]
    clear HE hlb
    go_enter Try.func78, Try.ntmps78
    go_wp2_with (fail)
    refine (HLB.out _).mono ?_
    rintro e w1 ⟨rfl, rfl⟩
    go_wp2_with (fail)
    refine HCO.out.mono ?_
    rintro e w1 ⟨rfl, hf⟩
    obtain ⟨q0, q1, _⟩ := c2_box (c := ⟨nm, im⟩) (hf.at HA.out)
    have HF := Lib.hid (HF0.out.trans hf)
    clear hf
    cases M with
    | true =>
      have HR : Hid (E = 8) := by rw [Hid, HE2.out, if_pos rfl]
      go_wp2
      go_ret
      exact ⟨ret_int HR.out.symm, HF.out⟩
    | false =>
      have HE3 : Hid (E = if imgB im.data.toList = true then 0 else 6) := by rw [Hid, HE2.out, if_neg (by simp)]
      go_wp2_with (fail)
      refine (HIM.out _).mono ?_
      rintro e w2 ⟨rfl, rfl⟩
      cases him : imgB im.data.toList with
      | true =>
        have HR : Hid (E = 0) := by rw [Hid, HE3.out, if_pos him]
        go_wp2
        go_ret
        exact ⟨ret_int HR.out.symm, HF.out⟩
      | false =>
        have HR : Hid (E = 6) := by rw [Hid, HE3.out, if_neg (by rw [him]; simp)]
        go_wp2
        go_ret
        exact ⟨ret_int HR.out.symm, HF.out⟩
end Go.Proofs.Ytphjhlnjfcfdcaa
namespace Go.Proofs.Ytphjhlnjfcfdcaa
open Go.ChangeShapes Go.WideShapes Go.ChangeAt Go.RowKit
set_option maxRecDepth 100000

theorem head2_in {p : P2} {a : ByteArray} (h : fileB p.file = true ∧ nameB p.name.data.toList = true ∧ labB p.ns.data.toList = true) :
    head2E p a = if leS p.file a = true then 6 else if 2 < p.r ∨ p.g < 1 ∨ 3600 < p.g then 7 else if p.cs.length = 0 then 16 else if 16 < p.cs.length then 18 else 0 := by rw [head2E, if_pos h]
set_option maxHeartbeats 8000000 in
theorem fault2_any (m : M2) (ahead : ByteArray) (w : World) (hin : m.In w) (hp : m.p.Fit maxLen) :
    Calls Try.prog 55 #[m.val, .string ahead] w fun e w' => e = .returned (.int .i64 (f2E m.p ahead)) ∧ Fresh w w' := by
  obtain ⟨⟨file, name, ns, r, g, cs⟩, a, c⟩ := m
  have HFI := Lib.hid (fun W => file_any file W hp.file)
  have HNM := Lib.hid (fun W => name_tx name W hp.name)
  have HNS := Lib.hid (fun W => label_any ns W hp.ns)
  have HE : Hid (f2E ⟨file, name, ns, r, g, cs⟩ ahead = if head2E ⟨file, name, ns, r, g, cs⟩ ahead = 0 then cs2E (cs.take 0) (cs.drop 0) else head2E ⟨file, name, ns, r, g, cs⟩ ahead) := rfl
  have HH : Hid (head2E ⟨file, name, ns, r, g, cs⟩ ahead = if fileB file = true ∧ nameB name.data.toList = true ∧ labB ns.data.toList = true then
    (if leS file ahead = true then 6 else if 2 < r ∨ g < 1 ∨ 3600 < g then 7 else if cs.length = 0 then 16 else if 16 < cs.length then 18 else 0) else 13) := rfl
  have HLE : Hid (leS file ahead = (Op.bytesLess file.toList ahead.toList || file.toList == ahead.toList)) := rfl
  have hr0 : 0 ≤ r := hp.r0
  have hg0 : 0 ≤ g := hp.g0
  have hrow : RowAt w a (c2s cs) := hin.1
  have hcap : cs.length ≤ c := hin.2
  have HCF : Hid (∀ x ∈ cs, x.name.size ≤ maxLen ∧ x.image.size ≤ maxLen) := hp.cs
  have HA := Lib.hid (at_new w (.cells #[.string file, .string name, .string ns, .int .u8 r, .int .u16 g, .slice a cs.length c] 98))
  have HF0 := Lib.hid ((Fresh.refl w).alloc (.cells #[.string file, .string name, .string ns, .int .u8 r, .int .u16 g, .slice a cs.length c] 98))
  have HROW := Lib.hid hrow
  dsimp only [M2.val] at *
  clear hp hin hrow
  generalize f2E ⟨file, name, ns, r, g, cs⟩ ahead = E at *
  generalize head2E ⟨file, name, ns, r, g, cs⟩ ahead = H at *
  generalize leS file ahead = L at *
  generalize hx1 : Op.bytesLess file.toList ahead.toList = x1 at *
  generalize hx2 : (file.toList == ahead.toList) = x2 at *
  have H13 : Hid (¬ (fileB file = true ∧ nameB name.data.toList = true ∧ labB ns.data.toList = true) → E = 13) := fun h => by
    have : H = 13 := by rw [HH.out, if_neg h]
    rw [HE.out, this, if_neg (by decide)]
  cases hf : fileB file with
  | false =>
    rw [hf] at HFI
    have HR := Lib.hid (H13.out (by rw [hf]; simp))
    clear HE HH H13 hf hx1 hx2
    go_enter Try.func55, Try.ntmps55
    go_wp2_with (fail)
    refine (HFI.out _).mono ?_
    rintro e w1 ⟨rfl, rfl⟩
    go_wp2
    go_ret
    exact ⟨ret_int HR.out.symm, HF0.out⟩
  | true =>
  rw [hf] at HFI
  cases hn : nameB name.data.toList with
  | false =>
    rw [hn] at HNM
    have HR := Lib.hid (H13.out (by rw [hn]; simp))
    clear HE HH H13 hf hn hx1 hx2
    go_enter Try.func55, Try.ntmps55
    go_wp2_with (fail)
    refine (HFI.out _).mono ?_
    rintro e w1 ⟨rfl, rfl⟩
    go_wp2_with (fail)
    refine (HNM.out _).mono ?_
    rintro e w1 ⟨rfl, hf⟩
    have HF := Lib.hid (HF0.out.trans hf)
    clear hf
    go_wp2
    go_ret
    exact ⟨ret_int HR.out.symm, HF.out⟩
  | true =>
  rw [hn] at HNM
  cases hs : labB ns.data.toList with
  | false =>
    rw [hs] at HNS
    have HR := Lib.hid (H13.out (by rw [hs]; simp))
    clear HE HH H13 hf hn hs hx1 hx2
    go_enter Try.func55, Try.ntmps55
    go_wp2_with (fail)
    refine (HFI.out _).mono ?_
    rintro e w1 ⟨rfl, rfl⟩
    go_wp2_with (fail)
    refine (HNM.out _).mono ?_
    rintro e w1 ⟨rfl, hf⟩
    have HF := Lib.hid (HF0.out.trans hf)
    obtain ⟨⟨q0, q1, q2, q3, q4, q5⟩, _⟩ := m2_box (m := ⟨⟨file, name, ns, r, g, cs⟩, a, c⟩) (hf.at HA.out)
    clear hf
    dsimp only at q0 q1 q2 q3 q4 q5
    go_wp2_with (fail)
    refine (HNS.out _).mono ?_
    rintro e w2 ⟨rfl, rfl⟩
    go_wp2
    go_ret
    exact ⟨ret_int HR.out.symm, HF.out⟩
  | true =>
  rw [hs] at HNS
  have HH2 : Hid (H = if L = true then 6 else if 2 < r ∨ g < 1 ∨ 3600 < g then 7 else if cs.length = 0 then 16 else if 16 < cs.length then 18 else 0) := by rw [Hid, HH.out, if_pos ⟨hf, hn, hs⟩]
  clear HH H13 hf hn hs
  have HBAD : Hid (∀ k : Int, H = k → k ≠ 0 → E = k) := fun k h h0 => by rw [HE.out, h, if_neg h0]
  go_enter Try.func55, Try.ntmps55
  go_wp2_with (fail)
  refine (HFI.out _).mono ?_
  rintro e w1 ⟨rfl, rfl⟩
  go_wp2_with (fail)
  refine (HNM.out _).mono ?_
  rintro e w1 ⟨rfl, hf⟩
  have HF := Lib.hid (HF0.out.trans hf)
  have HA1 := Lib.hid (hf.at HA.out)
  obtain ⟨⟨q0, q1, q2, q3, q4, q5⟩, _⟩ := m2_box (m := ⟨⟨file, name, ns, r, g, cs⟩, a, c⟩) HA1.out
  dsimp only at q0 q1 q2 q3 q4 q5
  clear hf HA HF0
  obtain ⟨b, hb⟩ : ∃ b, b = w.heap.size := ⟨_, rfl⟩
  rw [← hb] at q0 q1 q2 q3 q4 q5 HA1 ⊢
  clear hb
  go_wp2_with (fail)
  refine (HNS.out _).mono ?_
  rintro e w2 ⟨rfl, rfl⟩
  cases hl : (x1 || x2) with
  | true =>
    have HR := Lib.hid (HBAD.out 6 (by rw [HH2.out, HLE.out, hl, if_pos rfl]) (by decide))
    clear HH2 HLE HE HBAD
    cases x1 <;> cases x2 <;> simp at hl <;> (go_wp2; go_ret; exact ⟨ret_int HR.out.symm, HF.out⟩)
  | false =>
  have HH3 : Hid (H = if 2 < r ∨ g < 1 ∨ 3600 < g then 7 else if cs.length = 0 then 16 else if 16 < cs.length then 18 else 0) := by rw [Hid, HH2.out, HLE.out, hl, if_neg (by simp)]
  clear HH2 HLE
  simp only [Bool.or_eq_false_iff] at hl
  obtain ⟨rfl, rfl⟩ := hl
  by_cases hrg : 2 < r ∨ g < 1 ∨ 3600 < g
  · have HR := Lib.hid (HBAD.out 7 (by rw [HH3.out, if_pos hrg]) (by decide))
    clear HH3 HE HBAD
    by_cases h1 : 2 < r
    · go_wp2
      all_goals try (exfalso; omega)
      go_ret
      exact ⟨ret_int HR.out.symm, HF.out⟩
    by_cases h2 : g < 1
    · go_wp2
      all_goals try (exfalso; omega)
      go_ret
      exact ⟨ret_int HR.out.symm, HF.out⟩
    have h3 : 3600 < g := by omega
    go_wp2
    all_goals try (exfalso; omega)
    go_ret
    exact ⟨ret_int HR.out.symm, HF.out⟩
  have h1 : ¬ 2 < r := by omega
  have h2 : ¬ g < 1 := by omega
  have h3 : ¬ 3600 < g := by omega
  have HH4 : Hid (H = if cs.length = 0 then 16 else if 16 < cs.length then 18 else 0) := by rw [Hid, HH3.out, if_neg hrg]
  clear HH3 hrg
  by_cases h0 : cs.length = 0
  · have HR := Lib.hid (HBAD.out 16 (by rw [HH4.out, if_pos h0]) (by decide))
    have e0 : ((cs.length : Int) == 0) = true := by rw [beq_iff_eq]; omega
    clear HH4 HE HBAD
    go_wp2
    all_goals try (exfalso; omega)
    go_ret
    exact ⟨ret_int HR.out.symm, HF.out⟩
  have e0 : ((cs.length : Int) == 0) = false := by rw [beq_eq_false_iff_ne]; omega
  by_cases h16 : 16 < cs.length
  · have HR := Lib.hid (HBAD.out 18 (by rw [HH4.out, if_neg h0, if_pos h16]) (by decide))
    clear HH4 HE HBAD
    go_wp2
    all_goals try (exfalso; omega)
    go_ret
    exact ⟨ret_int HR.out.symm, HF.out⟩
  have HC : Hid (E = cs2E (cs.take 0) (cs.drop 0)) := by
    have : H = 0 := by rw [HH4.out, if_neg h0, if_neg h16]
    rw [Hid, HE.out, if_pos this]
  clear HH4 HE HBAD
  have HROW1 := Lib.hid (HROW.out.move HF.out)
  go_wp2
  all_goals try (exfalso; omega)
  clear q0 q1 q2 q3 q4 q5 hx1 hx2
  go_loopw [57] (fun a57 wr => ∃ (k : Nat), a57 = .int .i64 (k : Int) ∧ k ≤ cs.length ∧ Hid (E = cs2E (cs.take k) (cs.drop k)) ∧ Hid (Fresh w1 wr)) (fun a57 _ => cs.length - (intOf a57).toNat)
  case atStart => exact ⟨0, rfl, Nat.zero_le _, HC.out, Fresh.refl _⟩
  case round =>
    clear HC
    obtain ⟨k, rfl, hk, HE, HFk⟩ := hrel
    by_cases hlt : k < cs.length
    · have hrowk := HROW1.out.move HFk.out
      obtain ⟨gg, o1, rfl, hc⟩ := c2_form hrowk hlt
      obtain ⟨c0, c1⟩ := hc k hlt
      have hb5 := cell_of_at (HFk.out.at HA1.out) (i := 5) rfl
      have hbl := lt_of_at (HFk.out.at HA1.out)
      have HSTEP := Lib.hid (HE.out.trans (cs2E_drop hlt))
      have htl : (cs.take k).length = k := by rw [List.length_take]; omega
      have HFC : Hid (∀ W, Fresh wr W → Calls Try.prog 78 #[cs[k].val, .slice (some ⟨gg, o1, none⟩) k c] W fun e w' => e = .returned (.int .i64 (c2E (cs.take k) cs[k])) ∧ Fresh W w') := fun W f => by
        have := faultC_any cs[k] (cs.take k) (some ⟨gg, o1, none⟩) c W ((c2_take hrowk k).move f) (by omega) (HCF.out _ (List.getElem_mem hlt)).1 (HCF.out _ (List.getElem_mem hlt)).2
        rw [htl] at this
        exact this
      clear hc hrowk htl
      generalize c2E (cs.take k) cs[k] = F at *
      generalize cs[k] = d at *
      obtain ⟨nm, im⟩ := d
      dsimp only [C2.val] at *
      have i1 : (0 : Int) ≤ (k : Int) := by omega
      have i2 : (k : Int) < (cs.length : Int) := by omega
      have i3 : (k : Int) ≤ (c : Int) := by omega
      have HP := Lib.hid (at_new wr (.cells #[.string nm, .string im] 100))
      have HFa := Lib.hid ((Fresh.refl wr).alloc (.cells #[.string nm, .string im] 100))
      go_wp2_with (fail)
      all_goals try (exfalso; omega)
      generalize wr.alloc (.cells #[.string nm, .string im] 100) = V1 at *
      obtain ⟨z, hz⟩ : ∃ z, z = wr.heap.size := ⟨_, rfl⟩
      rw [← hz] at HP ⊢
      clear hz c0 c1 hb5 hbl
      have HKP : Hid (∀ W, Fresh V1 W → W.cell? ⟨z, 0, none⟩ = some (.string nm) ∧ W.cell? ⟨z, 1, none⟩ = some (.string im) ∧ W.cell? ⟨b, 5, none⟩ = some (.slice (some ⟨gg, o1, none⟩) cs.length c)) := fun W f =>
        ⟨(c2_box (c := ⟨nm, im⟩) (f.at HP.out)).1, (c2_box (c := ⟨nm, im⟩) (f.at HP.out)).2.1, cell_of_at (f.at (HFa.out.at (HFk.out.at HA1.out))) (i := 5) rfl⟩
      obtain ⟨k0, k1, k2⟩ := HKP.out V1 (.refl _)
      have HK : Hid (Fresh V1 V1.drew) := (Fresh.refl V1).drew
      go_region_held3 (fun w' => (w'.cell? ⟨z, 0, none⟩ = some (.string nm) ∧ w'.cell? ⟨z, 1, none⟩ = some (.string im) ∧ w'.cell? ⟨b, 5, none⟩ = some (.slice (some ⟨gg, o1, none⟩) cs.length c))) (go_keep)
        (first | (go_at_call 78; (with_reducible refine (HFC.out _ (HFa.out.trans HK.out)).mono ?_); rintro e W2 ⟨rfl, hf⟩; have HK := Lib.hid (HK.out.trans hf); obtain ⟨k0, k1, k2⟩ := HKP.out _ HK.out; clear hf))
      have HF2 := Lib.hid ((HFk.out.trans HFa.out).trans HK.out)
      clear k0 k1 k2 HK HKP HFa HP HFC
      by_cases hF : F = 0
      · subst hF
        have HN : Hid (E = cs2E (cs.take (k + 1)) (cs.drop (k + 1))) := by rw [Hid, HSTEP.out, if_pos rfl]
        clear HSTEP
        go_wp2
        go_roundw
        case rel => exact ⟨k + 1, by simp, by omega, HN.out, HF2.out⟩
        case measure => simp [intOf]; omega
      · have HR : Hid (E = F) := by rw [Hid, HSTEP.out, if_neg hF]
        have e1 : (F == 0) = false := by rw [beq_eq_false_iff_ne]; exact hF
        clear HSTEP
        go_wp2
        all_goals try (exfalso; omega)
        go_ret
        exact ⟨ret_int HR.out.symm, HF.out.trans HF2.out⟩
    · obtain rfl : k = cs.length := by omega
      have HR : Hid (E = 0) := by rw [Hid, HE.out, List.drop_of_length_le (Nat.le_refl _)]; rfl
      go_wp2
      all_goals try (exfalso; omega)
      go_ret
      exact ⟨ret_int HR.out.symm, HF.out.trans HFk.out⟩
set_option maxHeartbeats 2000000 in
theorem check2_any (seq : Int) (a : Option Addr) (l : List M2) (c : Nat) (w : World) (h : Row2 w a l) (hf : ∀ m ∈ l, m.p.Fit maxLen) :
    Calls Try.prog 27 #[st2 seq a l.length c] w fun e w' => e = .returned (.int .i64 (chk2 (pods2 l))) ∧ Fresh w w' := by
  have HROW := Lib.hid h
  have HFT := Lib.hid hf
  have hpl : (pods2 l).length = l.length := by simp [pods2]
  have HC : Hid (chk2 (pods2 l) = if 1024 < l.length then 18 else chk2F (ahead2 (pods2 l) 0) ((pods2 l).drop 0)) := by rw [Hid, chk2, hpl]; rfl
  have HA := Lib.hid (at_new w (.cells #[.int .u64 seq, .slice a l.length c] 49))
  have HF0 := Lib.hid ((Fresh.refl w).alloc (.cells #[.int .u64 seq, .slice a l.length c] 49))
  dsimp only [st2]
  clear h hf
  generalize chk2 (pods2 l) = E at *
  by_cases hm : 1024 < l.length
  · have HR : Hid (E = 18) := by rw [Hid, HC.out, if_pos hm]
    clear HC
    go_enter Try.func27, Try.ntmps27
    go_wp2
    all_goals try (exfalso; omega)
    go_ret
    exact ⟨ret_int HR.out.symm, HF0.out⟩
  · have HC2 : Hid (E = chk2F (ahead2 (pods2 l) 0) ((pods2 l).drop 0)) := by rw [Hid, HC.out, if_neg hm]
    clear HC
    go_enter Try.func27, Try.ntmps27
    go_wp2
    all_goals try (exfalso; omega)
    generalize w.alloc (.cells #[.int .u64 seq, .slice a l.length c] 49) = W0 at *
    go_loopw [3, 14] (fun a3 a14 wr => ∃ (k : Nat), a14 = .int .i64 (k : Int) ∧ a3 = .string (ahead2 (pods2 l) k) ∧ k ≤ l.length ∧ Hid (E = chk2F (ahead2 (pods2 l) k) ((pods2 l).drop k)) ∧ Hid (Fresh W0 wr)) (fun _ a14 _ => l.length - (intOf a14).toNat)
    case atStart => exact ⟨0, rfl, rfl, Nat.zero_le _, HC2.out, Fresh.refl _⟩
    case round =>
      obtain ⟨k, rfl, rfl, hk, HE, HF⟩ := hrel
      by_cases hlt : k < l.length
      · have hR := (HROW.out.move HF0.out).move HF.out
        obtain ⟨g, o1, rfl, hc⟩ := m2_form hR.row hlt
        obtain ⟨c0, c1, c2, c3, c4, c5⟩ := hc k hlt
        have HFA : Hid (∀ W, Fresh wr W → Calls Try.prog 55 #[l[k].val, .string (ahead2 (pods2 l) k)] W fun e w' => e = .returned (.int .i64 (f2E l[k].p (ahead2 (pods2 l) k))) ∧ Fresh W w') := fun W f => fault2_any l[k] (ahead2 (pods2 l) k) W ((hR.ins _ (List.getElem_mem hlt)).move f) (HFT.out _ (List.getElem_mem hlt))
        have hkp : k < (pods2 l).length := by omega
        have hpk : (pods2 l)[k] = l[k].p := by simp [pods2]
        have HSTEP : Hid (E = if f2E l[k].p (ahead2 (pods2 l) k) = 0 then chk2F l[k].p.file ((pods2 l).drop (k + 1)) else f2E l[k].p (ahead2 (pods2 l) k)) := by
          have := HE.out.trans (chk2F_drop hkp _)
          rw [hpk] at this; exact this
        have HAH : Hid (ahead2 (pods2 l) (k + 1) = l[k].p.file) := by have := ahead2_succ (pods2 l) k hkp; rw [hpk] at this; exact this
        clear hc hR hkp hpk
        generalize f2E l[k].p (ahead2 (pods2 l) k) = F at *
        generalize ahead2 (pods2 l) k = ah at *
        generalize l[k] = m at *
        obtain ⟨⟨file, name, ns, r, gr, cs⟩, ca, cc⟩ := m
        dsimp only [M2.val] at *
        generalize cs.length = n at *
        have HP := Lib.hid (at_new wr (.cells #[.string file, .string name, .string ns, .int .u8 r, .int .u16 gr, .slice ca n cc] 98))
        have HF1 := Lib.hid ((Fresh.refl wr).alloc (.cells #[.string file, .string name, .string ns, .int .u8 r, .int .u16 gr, .slice ca n cc] 98))
        by_cases hF : F = 0
        · subst hF
          have HN : Hid (E = chk2F file ((pods2 l).drop (k + 1))) := by rw [Hid, HSTEP.out, if_pos rfl]
          clear HSTEP
          go_wp2_with (fail)
          all_goals try (exfalso; omega)
          refine (HFA.out _ HF1.out).mono ?_
          rintro e w1 ⟨rfl, hf⟩
          have q0 := cell_of_at (hf.at HP.out) (i := 0) rfl
          have HF2 := Lib.hid ((HF.out.trans HF1.out).trans hf)
          clear hf
          go_wp2
          go_roundw
          case rel => exact ⟨k + 1, by simp, by rw [HAH.out], by omega, by rw [HAH.out]; exact HN.out, HF2.out⟩
          case measure => simp [intOf]; omega
        · have HR : Hid (E = F) := by rw [Hid, HSTEP.out, if_neg hF]
          have e0 : (F == 0) = false := by rw [beq_eq_false_iff_ne]; exact hF
          clear HSTEP
          go_wp2_with (fail)
          all_goals try (exfalso; omega)
          refine (HFA.out _ HF1.out).mono ?_
          rintro e w1 ⟨rfl, hf⟩
          have HF2 := Lib.hid ((HF.out.trans HF1.out).trans hf)
          clear hf
          go_wp2
          all_goals try (exfalso; omega)
          go_ret
          exact ⟨ret_int HR.out.symm, HF0.out.trans HF2.out⟩
      · obtain rfl : k = l.length := by omega
        have HR : Hid (E = 0) := by rw [Hid, HE.out, List.drop_of_length_le (by omega)]; rfl
        go_wp2
        all_goals try (exfalso; omega)
        go_ret
        exact ⟨ret_int HR.out.symm, HF0.out.trans HF.out⟩
end Go.Proofs.Ytphjhlnjfcfdcaa
namespace Go.Proofs.Ytphjhlnjfcfdcaa
open Go.ChangeShapes Go.WideShapes Go.ChangeAt Go.RowKit
set_option maxRecDepth 100000

theorem ttext_at {b : Nat} {s s1 : ByteArray} {e e1 : Int} {x : ByteArray} (w : World) (hs : s.size ≤ maxLen) (ht : atT w b s e) (h : textT s e = (s1, e1, x)) :
    Calls Try.prog 75 #[.pointer (some ⟨b, 0, none⟩)] w fun r w' => r = .returned (.string x) ∧ Moved b w w' s1 e1 := by
  have := ttext_any b s e w hs ht
  rw [h] at this
  exact this
theorem Moved.below {w w0 w1 : World} {s : ByteArray} {e : Int} {b : Nat} (hf : Fresh w w0) (h : Moved b w0 w1 s e) (hb : w.heap.size ≤ b) : Fresh w w1 :=
  ⟨h.os.trans hf.os, h.tape.trans hf.tape, h.output.trans hf.output, Nat.le_trans hf.size h.size, fun k hk => (h.block k (Nat.lt_of_lt_of_le hk hf.size) (by omega)).trans (hf.block k hk)⟩
theorem Moved.grows {b : Nat} {w w' : World} {s : ByteArray} {e : Int} (h : Moved b w w' s e) : w.grownBy w' (some b) :=
  ⟨h.os, h.tape, h.output, h.size, fun k hk hne => h.block k hk (fun e => hne (by rw [e]))⟩
theorem own_moved {W W' : World} {B e k n b : Nat} {v : Value} {xs : List Value} {s : ByteArray} {x : Int} (h : W.ownsRow B e k v n xs) (m : Moved b W W' s x) (hb : b < B) : W'.ownsRow B e k v n xs := by
  refine World.ownsRow.kept h m.grows ?_
  rcases h' : v.ownBlock with _ | g
  · exact .inl rfl
  · refine .inr fun e2 => ?_
    have := (World.ownsRow.lt h g h').1
    have e3 : g = b := by simpa using e2
    omega
theorem Moved.grown {b : Nat} {w w1 w2 : World} {s : ByteArray} {e : Int} (h : Moved b w w1 s e) {row : Option Nat} (hg : w1.grownBy w2 row) (hr : ∀ g, row = some g → w.heap.size ≤ g) (hb : b < w.heap.size) : Moved b w w2 s e :=
  ⟨(hg.block b (atT_lt h.isT) (fun e => by have := hr b e.symm; omega)).trans h.isT, hg.os.trans h.os, hg.tape.trans h.tape, hg.output.trans h.output, Nat.le_trans h.size hg.size,
    fun k hk hn => (hg.block k (Nat.lt_of_lt_of_le hk h.size) (fun e => by have := hr k e.symm; omega)).trans (h.block k hk hn)⟩
theorem info1 : (Try.prog.info? 66).map (fun i => (i.zero, i.size, i.bytes)) = some (some (.agg #[.string ⟨#[]⟩, .string ⟨#[]⟩, .string ⟨#[]⟩, .int .u8 0]), 4, 56) := by kernel_rfl
theorem wrap_u8 {r : Int} (h0 : 0 ≤ r) (h1 : r < 256) : IntKind.u8.wrap r = r := by
  simp [IntKind.wrap, IntKind.signed, IntKind.bits]; omega
theorem wrap_u32 {r : Int} (h0 : 0 ≤ r) (h1 : r ≤ 4294967295) : IntKind.u32.wrap r = r := by
  simp [IntKind.wrap, IntKind.signed, IntKind.bits]; omega
/-- What the pods come to. -/
def gotL (e : Int) (L : List P1) : List P1 := if e = 0 then L else []
set_option maxHeartbeats 4000000 in
theorem takePods_any (b : Nat) (s s2 s3 : ByteArray) (e e2 e3 n : Int) (L : List P1) (w : World) (hs : s.size ≤ maxLen) (ht : atT w b s e) (h2 : takeT s e 2 = (s2, e2, n)) (h3 : podsT n.toNat s2 e2 = (s3, e3, L)) (hn0 : 0 ≤ n) (hz : e2 ≠ 0 → n = 0) :
    Calls Try.prog 48 #[.pointer (some ⟨b, 0, none⟩)] w fun r w' => ∃ a c, r = .returned (.slice a (if 1024 < n then [] else gotL e3 L).length c) ∧ RowAt w' a (p1s (if 1024 < n then [] else gotL e3 L)) ∧ (∀ ad : Addr, a = some ad → w.heap.size ≤ ad.block) ∧ (if 1024 < n then Moved b w w' s2 18 else Moved b w w' s3 e3) := by
  have hb := atT_lt ht
  have HT := Lib.hid (take_at w hs ht h2)
  have hs2 : s2.size ≤ maxLen := Nat.le_trans (take_len h2) hs
  clear ht h2 hs
  by_cases hm : 1024 < n
  · simp only [if_pos hm]
    clear h3 hz
    go_enter Try.func48, Try.ntmps48
    go_wp2_with (fail)
    refine HT.out.mono ?_
    rintro r w1 ⟨rfl, hm1⟩
    obtain ⟨c0, c1, f0, f1⟩ := atT_facts hm1.isT
    have HM := Lib.hid hm1
    clear hm1
    go_wp2
    go_ret
    exact ⟨none, 0, rfl, .nil _ _, (fun _ h => nomatch h), HM.out.error 18⟩
  simp only [if_neg hm]
  obtain ⟨N, rfl⟩ := Int.eq_ofNat_of_zero_le hn0
  rw [Int.toNat_natCast] at h3
  have H3 : Hid (podsT N s2 e2 = (s3, e3, L)) := h3
  have HZ : Hid (e2 ≠ 0 → N = 0) := fun h => by have := hz h; omega
  have hN : N ≤ 1024 := by omega
  clear h3 hz hm hn0
  obtain ⟨i0, hi, hz0, hz1, hz2⟩ := info_parts info1
  go_enter Try.func48, Try.ntmps48
  go_wp2_with (fail)
  refine HT.out.mono ?_
  rintro r w1 ⟨rfl, hm1⟩
  have HM := Lib.hid hm1
  have hbw : w.heap.size ≤ w1.heap.size := hm1.size
  have HS2 : Hid (s2.size ≤ maxLen) := hs2
  clear hm1 hs2
  go_wp2
  all_goals try (exfalso; omega)
  go_loopw [4, 13] (fun a4 a13 wr => ∃ (k : Nat) (s : ByteArray) (e : Int) (o : Option Addr) (c : Nat) (D : List P1), a13 = .int .u64 (k : Int) ∧ a4 = .slice o k c ∧ k ≤ N ∧ Hid (e ≠ 0 → N = 0) ∧ Hid (s.size ≤ maxLen) ∧ Hid (D.length = k) ∧ Hid (podsT N s2 e2 = aheadT D (podsT (N - k) s e)) ∧ Hid (wr.ownsRow w.heap.size 66 4 (.slice o k c) k (p1s D)) ∧ Hid (Moved b w wr s e)) (fun _ a13 _ => N - (intOf a13).toNat)
  case atStart => exact ⟨0, s2, e2, none, 0, [], rfl, rfl, Nat.zero_le _, HZ.out, HS2.out, rfl, rfl, World.ownsRow_nil _ _ _ _, HM.out⟩
  case round =>
    clear HM HZ HS2
    obtain ⟨k, s, e, o, c, D, rfl, rfl, hk, HZ, HS, HD, HE, HOW, HM⟩ := hrel
    by_cases hlt : k < N
    · obtain rfl : e = 0 := Classical.byContradiction fun h => by have := HZ.out h; omega
      obtain ⟨s1, s2', s3', s4, x1, x2, x3, e1, e2', e3', e4, v, hT⟩ := pod1T s 0
      obtain ⟨hv0, hv1⟩ := hT.v
      have HTT := Lib.hid hT
      have HST := Lib.hid (HE.out.trans (podsT_step hlt (podT_eq hT.h1 hT.h2 hT.h3 hT.h4) D))
      have HLE := Lib.hid hT.le
      have hw8 := wrap_u8 hv0 hv1
      have HBW : Hid (w.heap.size ≤ wr.heap.size) := HM.out.size
      clear hT HE
      go_wp2_with (fail)
      all_goals try (exfalso; omega)
      refine (ttext_at _ HS.out HM.out.isT HTT.out.h1).mono ?_
      rintro r w2 ⟨rfl, hm2⟩
      have HO := Lib.hid (own_moved HOW.out hm2 hb)
      have HM := Lib.hid (HM.out.trans hm2)
      clear hm2
      go_wp2_with (fail)
      refine (ttext_at _ (Nat.le_trans HLE.out.1.1 HS.out) HM.out.isT HTT.out.h2).mono ?_
      rintro r w3 ⟨rfl, hm2⟩
      have HO := Lib.hid (own_moved HO.out hm2 hb)
      have HM := Lib.hid (HM.out.trans hm2)
      clear hm2
      go_wp2_with (fail)
      refine (ttext_at _ (Nat.le_trans HLE.out.1.2.1 HS.out) HM.out.isT HTT.out.h3).mono ?_
      rintro r w4 ⟨rfl, hm2⟩
      have HO := Lib.hid (own_moved HO.out hm2 hb)
      have HM := Lib.hid (HM.out.trans hm2)
      clear hm2
      go_wp2_with (fail)
      refine (take_at _ (Nat.le_trans HLE.out.1.2.2.1 HS.out) HM.out.isT HTT.out.h4).mono ?_
      rintro r w5 ⟨rfl, hm2⟩
      have HO := Lib.hid (own_moved HO.out hm2 hb)
      have HM := Lib.hid (HM.out.trans hm2)
      clear hm2
      have HN := Lib.hid (news7 w5 66 [.string x1, .string x2, .string x3, .int .u8 v])
      have HW5 : Hid (w.heap.size ≤ w5.heap.size) := HM.out.size
      go_wp2_with (at_builtin; refine Hid.out ?_)
      refine Lib.hid ?_
      refine wpList_append_own _ rfl _ _ 23 rfl w.heap.size 66 i0 (.agg #[.string ⟨#[]⟩, .string ⟨#[]⟩, .string ⟨#[]⟩, .int .u8 0]) 4 56 Try.underlying23 hi hz0 hz1 hz2 rfl (by decide) _ k _ rfl (World.ownsRow.alloc HO.out _) ⟨w5.heap.size, 0, none⟩ 1 1 [.string x1, .string x2, .string x3, .int .u8 v] rfl rfl HN.out (by simp [Value.oneCell']) (by unfold maxLen; omega) (by omega) (by rw [World.size_alloc]; have := HW5.out; omega) ?_
      intro v' w6 hown' hgrow _
      obtain ⟨g', cap', rfl⟩ := ownsRow_succ hown'
      have hm6 := (HM.out.fresh (atT_lt HM.out.isT) ((Fresh.refl w5).alloc (.cells #[.string x1, .string x2, .string x3, .int .u8 v] 66))).grown hgrow (fun g e => (World.ownsRow.lt HO.out g e).1) hb
      obtain ⟨c0, c1, f0, f1⟩ := atT_facts hm6.isT
      have HM6 := Lib.hid hm6
      have HOWN := Lib.hid hown'
      clear hown' hgrow hm6
      by_cases he : e4 = 0
      · subst he
        go_wp2
        go_roundw
        case rel =>
          refine ⟨k + 1, s4, 0, some ⟨g', 0, none⟩, cap', D ++ ([⟨x1, x2, x3, v⟩] : List P1), by simp, by simp, by omega, fun h => absurd rfl h, Nat.le_trans HLE.out.1.2.2.2 HS.out, ?_, HST.out, ?_, HM6.out⟩
          · rw [Hid, List.length_append, HD.out]; rfl
          · rw [p1s_snoc]; exact HOWN.out
        case measure => simp [intOf]; omega
      · have e0 : (e4 != 0) = true := by simpa using he
        have HR : Hid (s3 = s4 ∧ e3 = e4) := by
          have h1 := H3.out.symm.trans HST.out
          have h2 := podsT_err (N - (k + 1)) (s := s4) he
          simp only [aheadT, Prod.mk.injEq] at h1
          exact ⟨h1.1.trans h2.1, h1.2.1.trans h2.2⟩
        have HG : Hid (gotL e3 L = []) := by rw [Hid, gotL, HR.out.2, if_neg he]
        go_wp2
        go_ret
        refine ⟨none, 0, ?_, ?_, (fun _ h => nomatch h), ?_⟩
        · rw [HG.out]; rfl
        · rw [HG.out]; exact .nil _ _
        · rw [HR.out.1, HR.out.2]; exact HM6.out
    · obtain rfl : k = N := by omega
      have HR : Hid (s3 = s ∧ e3 = e ∧ L = D) := by
        have h1 := H3.out.symm.trans HE.out
        rw [Nat.sub_self] at h1
        simp only [aheadT, podsT, Prod.mk.injEq, List.append_nil] at h1
        exact h1
      have HG : Hid (gotL e3 L = D) := by
        rw [Hid, gotL, HR.out.2.1, HR.out.2.2]
        by_cases he : e = 0
        · rw [if_pos he]
        · rw [if_neg he]
          have h0 := HZ.out he
          have := HD.out
          rw [h0] at this
          exact (List.eq_nil_of_length_eq_zero this).symm
      go_wp2
      all_goals try (exfalso; omega)
      go_ret
      refine ⟨o, c, ?_, ?_, (fun ad h => (World.ownsRow.lt HOW.out ad.block (by rw [h]; rfl)).1), ?_⟩
      · rw [HG.out, HD.out]; rfl
      · rw [HG.out]; exact RowAt.owns HOW.out
      · rw [HR.out.1, HR.out.2.1]; exact HM.out
end Go.Proofs.Ytphjhlnjfcfdcaa
namespace Go.Proofs.Ytphjhlnjfcfdcaa
open Go.ChangeShapes Go.WideShapes Go.ChangeAt Go.RowKit
set_option maxRecDepth 100000

theorem Moved.cell {b : Nat} {w w' : World} {s : ByteArray} {e : Int} (m : Moved b w w' s e) {g i : Nat} {v : Value} (h : w.cell? ⟨g, i, none⟩ = some v) (hne : g ≠ b) : w'.cell? ⟨g, i, none⟩ = some v := by
  have := m.block g (World.block_lt_of_cell? w _ h) hne
  simp only [World.cell?, this] at h ⊢
  exact h
theorem cell_set_ne {W : World} {g i : Nat} {x u : Value} {z j : Nat} (h : W.cell? ⟨g, i, none⟩ = some x) (hne : g ≠ z) : (W.setCell ⟨z, j, none⟩ u).cell? ⟨g, i, none⟩ = some x := by
  rw [World.cell?_setCell_other (a := ⟨z, j, none⟩) (b := ⟨g, i, none⟩) (h := fun e => hne (congrArg Addr.block e).symm)]
  exact h
theorem Moved.off {b : Nat} {w w1 : World} {s : ByteArray} {e : Int} (h : Moved b w w1 s e) {z : Nat} (hz : w.heap.size ≤ z) (hb : b < w.heap.size) (i : Nat) (u : Value) : Moved b w (w1.setCell ⟨z, i, none⟩ u) s e := by
  refine ⟨?_, h.os, h.tape, h.output, by simpa [World.setCell] using h.size, fun k hk hn => ?_⟩
  · exact at_off h.isT (by show b ≠ z; omega) _
  · rw [Below.heap_setCell _ _ _ _ (by show k ≠ z; omega)]; exact h.block k hk hn
theorem upto1_any (b b3 b4 b5 : Nat) (s s1 : ByteArray) (e e1 n most v : Int) (w : World) (hs : s.size ≤ maxLen) (ht : atT w b s e) (h : upT s e n most = (s1, e1, v))
    (c3 : w.cell? ⟨b3, 0, none⟩ = some (.pointer (some ⟨b, 0, none⟩))) (c4 : w.cell? ⟨b4, 0, none⟩ = some (.int .i64 n)) (c5 : w.cell? ⟨b5, 0, none⟩ = some (.int .u64 most)) (n3 : b3 ≠ b) (n5 : b5 ≠ b) :
    Calls Try.prog 80 #[.pointer (some ⟨b3, 0, none⟩), .pointer (some ⟨b4, 0, none⟩), .pointer (some ⟨b5, 0, none⟩)] w fun r w' => r = .returned (.int .u64 v) ∧ Moved b w w' s1 e1 := by
  obtain ⟨t1, t2, t3, htk⟩ : ∃ t1 t2 t3, takeT s e n = (t1, t2, t3) := ⟨_, _, _, rfl⟩
  have HT := Lib.hid (take_at w hs ht htk)
  have HC3 := Lib.hid c3
  have HC5 := Lib.hid c5
  have HU : Hid ((if most < t3 then (t1, 18, 0) else (t1, t2, t3)) = (s1, e1, v)) := by
    have := h
    unfold upT at this
    rw [htk] at this
    exact this
  clear h htk ht hs
  by_cases hm : most < t3
  · have HR : Hid ((t1, (18 : Int), (0 : Int)) = (s1, e1, v)) := by have := HU.out; rwa [if_pos hm] at this
    obtain ⟨r1, r2, r3⟩ : t1 = s1 ∧ (18 : Int) = e1 ∧ (0 : Int) = v := by have := HR.out; simpa using this
    subst r1 r2 r3
    clear HU HR
    go_enter Try.func80, Try.ntmps80
    go_wp2_with (fail)
    refine HT.out.mono ?_
    rintro r w1 ⟨rfl, hm1⟩
    have q3 := hm1.cell HC3.out n3
    have q5 := hm1.cell HC5.out n5
    obtain ⟨k0, k1, f0, f1⟩ := atT_facts hm1.isT
    have HM := Lib.hid hm1
    clear hm1 c3 c4 c5
    go_wp2
    all_goals try (exfalso; omega)
    go_ret
    exact ⟨rfl, HM.out.error 18⟩
  · obtain ⟨r1, r2, r3⟩ : t1 = s1 ∧ t2 = e1 ∧ t3 = v := by
      have := HU.out
      rw [if_neg hm] at this
      simpa using this
    subst r1 r2 r3
    clear HU
    go_enter Try.func80, Try.ntmps80
    go_wp2_with (fail)
    refine HT.out.mono ?_
    rintro r w1 ⟨rfl, hm1⟩
    have q3 := hm1.cell HC3.out n3
    have q5 := hm1.cell HC5.out n5
    have HM := Lib.hid hm1
    clear hm1 c3 c4 c5
    go_wp2
    all_goals try (exfalso; omega)
    go_ret
    exact ⟨rfl, HM.out⟩
set_option maxHeartbeats 2000000 in
theorem cont1_any (b b1 : Nat) (s s1 : ByteArray) (e e1 : Int) (x : C2) (w : World) (hs : s.size ≤ maxLen) (ht : atT w b s e) (h : contT s e = (s1, e1, x))
    (c1 : w.cell? ⟨b1, 0, none⟩ = some (.pointer (some ⟨b, 0, none⟩))) (n1 : b1 ≠ b) :
    Calls Try.prog 96 #[.pointer (some ⟨b1, 0, none⟩)] w fun r w' => r = .returned x.val ∧ Moved b w w' s1 e1 := by
  obtain ⟨t1, f1, x1, h1⟩ : ∃ t1 f1 x1, textT s e = (t1, f1, x1) := ⟨_, _, _, rfl⟩
  obtain ⟨t2, f2, x2, h2⟩ : ∃ t2 f2 x2, textT t1 f1 = (t2, f2, x2) := ⟨_, _, _, rfl⟩
  obtain ⟨r1, r2, r3⟩ : t2 = s1 ∧ f2 = e1 ∧ (⟨x1, x2⟩ : C2) = x := by
    have := (contT_eq h1 h2).symm.trans h
    simpa using this
  subst r1 r2 r3
  have hbl := atT_lt ht
  have hb1l := World.block_lt_of_cell? w _ c1
  dsimp only at hb1l
  have ht0 : atT (w.alloc (.cells #[.string ⟨#[]⟩, .string ⟨#[]⟩] 100)) b s e := at_alloc ht
  have HM0 : Hid (Moved b w (w.alloc (.cells #[.string ⟨#[]⟩, .string ⟨#[]⟩] 100)).drew s e) := ((Moved.refl ht).fresh hbl ((Fresh.refl w).alloc _)).fresh (atT_lt ht0) ((Fresh.refl _).drew)
  have HA := Lib.hid (at_new w (.cells #[.string ⟨#[]⟩, .string ⟨#[]⟩] 100))
  have HC1 := Lib.hid (((Fresh.refl w).alloc (.cells #[.string ⟨#[]⟩, .string ⟨#[]⟩] 100)).cell c1)
  have HH1 := Lib.hid h1
  have HH2 := Lib.hid h2
  have hl := (textT_len h1).1
  clear h h1 h2 ht ht0 c1
  dsimp only [C2.val]
  go_enter Try.func96, Try.ntmps96
  go_wp2_with (fail)
  generalize w.alloc (.cells #[.string ⟨#[]⟩, .string ⟨#[]⟩] 100) = W0 at *
  obtain ⟨z, hz⟩ : ∃ z, z = w.heap.size := ⟨_, rfl⟩
  rw [← hz] at HA ⊢
  have hzb : z ≠ b := by omega
  have hb1z : b1 ≠ z := by omega
  have HZW := Lib.hid hz
  clear hz
  have k1 := HC1.out
  have HA : Hid (W0.drew.heap[z]? = some (.cells #[.string ⟨#[]⟩, .string ⟨#[]⟩] 100)) := HA.out
  have HM := Lib.hid HM0.out
  clear HC1 HM0
  go_region_held3 (fun w' => (w'.cell? ⟨b1, 0, none⟩ = some (.pointer (some ⟨b, 0, none⟩)))) (first | go_keep | exact cell_set_ne (cell_set_ne k1 hb1z) hb1z)
    (first
      | (go_at_call 75; (with_reducible refine (ttext_at _ hs HM.out.isT HH1.out).mono ?_); rintro r W2 ⟨rfl, hm⟩; have k1 := hm.cell k1 n1; have HA := Lib.hid ((hm.block z (lt_of_at HA.out) hzb).trans HA.out); have HM := Lib.hid (HM.out.trans hm); clear hm)
      | (go_at_call 75; (with_reducible refine (ttext_at _ (Nat.le_trans hl hs) HM.out.isT HH2.out).mono ?_); rintro r W2 ⟨rfl, hm⟩; have k1 := hm.cell k1 n1; have HA := Lib.hid ((hm.block z (lt_of_at HA.out) hzb).trans HA.out); have HM := Lib.hid (HM.out.trans hm); clear hm; have q0 := cell_of_at HA.out (i := 0) rfl; have q1 := cell_of_at HA.out (i := 1) rfl; have g0 := frozen_of_at HA.out 0; have g1 := frozen_of_at HA.out 1))
  all_goals go_wp2
  refine bodyPost_ret (v := .agg #[.string x1, .string x2]) (by simp [results, Try.results96, go_sem, *]) rfl ?_
  exact ⟨rfl, (HM.out.off (by have := HZW.out; omega) hbl _ _).off (by have := HZW.out; omega) hbl _ _⟩
end Go.Proofs.Ytphjhlnjfcfdcaa
namespace Go.Proofs.Ytphjhlnjfcfdcaa
open Go.ChangeShapes Go.WideShapes Go.ChangeAt Go.RowKit
set_option maxRecDepth 100000

theorem infoC : (Try.prog.info? 100).map (fun i => (i.zero, i.size, i.bytes)) = some (some (.agg #[.string ⟨#[]⟩, .string ⟨#[]⟩]), 2, 32) := by kernel_rfl
theorem RowAt.keep {w w' : World} {a : Option Addr} {cs : List Value} (h : RowAt w a cs) (hb : ∀ ad : Addr, a = some ad → w'.heap[ad.block]? = w.heap[ad.block]?) : RowAt w' a cs := by
  rcases h with h | ⟨g, o, e, h⟩
  · exact .inl h
  · refine .inr ⟨g, o, e, fun j x hj => ?_⟩
    have h1 := h j x hj
    have h2 := hb _ e
    dsimp only at h2
    simp only [World.cell?, h2] at h1 ⊢
    exact h1
/-- The closures of upTo and of container. -/
def upV (b3 b4 b5 : Nat) : Value := .func (.func 80) #[] #[.pointer (some ⟨b3, 0, none⟩), .pointer (some ⟨b4, 0, none⟩), .pointer (some ⟨b5, 0, none⟩)]
def contV (b1 : Nat) : Value := .func (.func 96) #[] #[.pointer (some ⟨b1, 0, none⟩)]
set_option maxHeartbeats 4000000 in
theorem listC_any (b b1 b3 b4 b5 : Nat) (s s2 s3 : ByteArray) (e e2 e3 m most n : Int) (L : List C2) (w : World) (hs : s.size ≤ maxLen) (ht : atT w b s e) (h2 : upT s e m most = (s2, e2, n)) (h3 : manyT contT n.toNat s2 e2 = (s3, e3, L)) (hn0 : 0 ≤ n) (hn1 : n ≤ 1024)
    (c1 : w.cell? ⟨b1, 0, none⟩ = some (.pointer (some ⟨b, 0, none⟩))) (c3 : w.cell? ⟨b3, 0, none⟩ = some (.pointer (some ⟨b, 0, none⟩))) (c4 : w.cell? ⟨b4, 0, none⟩ = some (.int .i64 m)) (c5 : w.cell? ⟨b5, 0, none⟩ = some (.int .u64 most)) (n1 : b1 ≠ b) (n3 : b3 ≠ b) (n5 : b5 ≠ b) :
    Calls Try.prog 82 #[.pointer (some ⟨b, 0, none⟩), .func (.func 80) #[] #[.pointer (some ⟨b3, 0, none⟩), .pointer (some ⟨b4, 0, none⟩), .pointer (some ⟨b5, 0, none⟩)], .func (.func 96) #[] #[.pointer (some ⟨b1, 0, none⟩)]] w
      fun r w' => ∃ a c, r = .returned (.slice a (gotM e3 L).length c) ∧ RowAt w' a (c2s (gotM e3 L)) ∧ (gotM e3 L).length ≤ c ∧ (∀ ad : Addr, a = some ad → w.heap.size ≤ ad.block ∧ ad.block < w'.heap.size) ∧ Moved b w w' s3 e3 := by
  have hb := atT_lt ht
  have HT := Lib.hid (upto1_any b b3 b4 b5 s s2 e e2 m most n w hs ht h2 c3 c4 c5 n3 n5)
  have hs2 : s2.size ≤ maxLen := by have := upT_less s e m most; rw [h2] at this; exact Nat.le_trans this hs
  have HZ0 := Lib.hid (fun h => upT_zero h2 h)
  have HC1 := Lib.hid c1
  clear ht h2 hs c3 c4 c5
  obtain ⟨N, rfl⟩ := Int.eq_ofNat_of_zero_le hn0
  rw [Int.toNat_natCast] at h3
  have H3 : Hid (manyT contT N s2 e2 = (s3, e3, L)) := h3
  have HZ : Hid (e2 ≠ 0 → N = 0) := fun h => by have := HZ0.out h; omega
  have hN : N ≤ 1024 := by omega
  clear h3 HZ0 hn0 hn1 c1
  obtain ⟨i0, hi, hz0, hz1, hz2⟩ := info_parts infoC
  go_enter Try.func82, Try.ntmps82
  go_wp2_with (fail)
  refine HT.out.mono ?_
  rintro r w1 ⟨rfl, hm1⟩
  have HM := Lib.hid hm1
  have hbw : w.heap.size ≤ w1.heap.size := hm1.size
  have HS2 : Hid (s2.size ≤ maxLen) := hs2
  clear hm1 hs2
  go_wp2
  all_goals try (exfalso; omega)
  go_loopw [7, 10] (fun a7 a10 wr => ∃ (k : Nat) (s : ByteArray) (e : Int) (o : Option Addr) (c : Nat) (D : List C2), a10 = .int .u64 (k : Int) ∧ a7 = .slice o k c ∧ k ≤ N ∧ Hid (e ≠ 0 → N = 0) ∧ Hid (s.size ≤ maxLen) ∧ Hid (D.length = k) ∧ Hid (manyT contT N s2 e2 = aheadM D (manyT contT (N - k) s e)) ∧ Hid (wr.ownsRow w.heap.size 100 2 (.slice o k c) k (c2s D)) ∧ Hid (Moved b w wr s e)) (fun _ a10 _ => N - (intOf a10).toNat)
  case atStart => exact ⟨0, s2, e2, none, 0, [], rfl, rfl, Nat.zero_le _, HZ.out, HS2.out, rfl, rfl, World.ownsRow_nil _ _ _ _, HM.out⟩
  case round =>
    clear HM HZ HS2
    obtain ⟨k, s, e, o, c, D, rfl, rfl, hk, HZ, HS, HD, HE, HOW, HM⟩ := hrel
    by_cases hlt : k < N
    · obtain rfl : e = 0 := Classical.byContradiction fun h => by have := HZ.out h; omega
      obtain ⟨s4, e4, x, hx⟩ : ∃ s4 e4 x, contT s 0 = (s4, e4, x) := ⟨_, _, _, rfl⟩
      have HST := Lib.hid (HE.out.trans (manyT_step hlt hx D))
      have HL4 : Hid (s4.size ≤ maxLen) := by have := contT_less s 0; rw [hx] at this; exact Nat.le_trans this HS.out
      have HCT := Lib.hid (cont1_any b b1 s s4 0 e4 x wr HS.out HM.out.isT hx (HM.out.cell HC1.out n1) n1)
      clear hx HE
      obtain ⟨x1, x2⟩ := x
      dsimp only [C2.val] at *
      go_wp2_with (fail)
      all_goals try (exfalso; omega)
      refine HCT.out.mono ?_
      rintro r w5 ⟨rfl, hm2⟩
      have HO := Lib.hid (own_moved HOW.out hm2 hb)
      have HM := Lib.hid (HM.out.trans hm2)
      clear hm2 HCT
      have HN := Lib.hid (news7 w5 100 [.string x1, .string x2])
      have HW5 : Hid (w.heap.size ≤ w5.heap.size) := HM.out.size
      go_wp2_with (at_builtin; refine Hid.out ?_)
      refine Lib.hid ?_
      refine wpList_append_own _ rfl _ _ 96 rfl w.heap.size 100 i0 (.agg #[.string ⟨#[]⟩, .string ⟨#[]⟩]) 2 32 Try.underlying96 hi hz0 hz1 hz2 rfl (by decide) _ k _ rfl (World.ownsRow.alloc HO.out _) ⟨w5.heap.size, 0, none⟩ 1 1 [.string x1, .string x2] rfl rfl HN.out (by simp [Value.oneCell']) (by unfold maxLen; omega) (by omega) (by rw [World.size_alloc]; have := HW5.out; omega) ?_
      intro v' w6 hown' hgrow _
      obtain ⟨g', cap', rfl⟩ := ownsRow_succ hown'
      have hm6 := (HM.out.fresh (atT_lt HM.out.isT) ((Fresh.refl w5).alloc (.cells #[.string x1, .string x2] 100))).grown hgrow (fun g e => (World.ownsRow.lt HO.out g e).1) hb
      obtain ⟨k0, k1, f0, f1⟩ := atT_facts hm6.isT
      have HM6 := Lib.hid hm6
      have HOWN := Lib.hid hown'
      clear hown' hgrow hm6
      by_cases he : e4 = 0
      · subst he
        go_wp2
        go_roundw
        case rel =>
          refine ⟨k + 1, s4, 0, some ⟨g', 0, none⟩, cap', D ++ ([⟨x1, x2⟩] : List C2), by simp, by simp, by omega, fun h => absurd rfl h, HL4.out, ?_, HST.out, ?_, HM6.out⟩
          · rw [Hid, List.length_append, HD.out]; rfl
          · rw [c2s_snoc]; exact HOWN.out
        case measure => simp [intOf]; omega
      · have e0 : (e4 != 0) = true := by simpa using he
        have HR : Hid (s3 = s4 ∧ e3 = e4) := by
          have h1 := H3.out.symm.trans HST.out
          have h2 := manyT_err contT_keeps (N - (k + 1)) (s := s4) he
          simp only [aheadM, Prod.mk.injEq] at h1
          exact ⟨h1.1.trans h2.1, h1.2.1.trans h2.2⟩
        have HG : Hid (gotM e3 L = []) := by rw [Hid, gotM, HR.out.2, if_neg he]
        go_wp2
        go_ret
        refine ⟨none, 0, ?_, ?_, ?_, (fun _ h => nomatch h), ?_⟩
        · rw [HG.out]; rfl
        · rw [HG.out]; exact .nil _ _
        · rw [HG.out]; exact Nat.le_refl _
        · rw [HR.out.1, HR.out.2]; exact HM6.out
    · obtain rfl : k = N := by omega
      have HR : Hid (s3 = s ∧ e3 = e ∧ L = D) := by
        have h1 := H3.out.symm.trans HE.out
        rw [Nat.sub_self] at h1
        simp only [aheadM, manyT, Prod.mk.injEq, List.append_nil] at h1
        exact h1
      have HG : Hid (gotM e3 L = D) := by
        rw [Hid, gotM, HR.out.2.1, HR.out.2.2]
        by_cases he : e = 0
        · rw [if_pos he]
        · rw [if_neg he]
          have h0 := HZ.out he
          have := HD.out
          rw [h0] at this
          exact (List.eq_nil_of_length_eq_zero this).symm
      go_wp2
      all_goals try (exfalso; omega)
      go_ret
      refine ⟨o, c, ?_, ?_, ?_, (fun ad h => World.ownsRow.lt HOW.out ad.block (by rw [h]; rfl)), ?_⟩
      · rw [HG.out, HD.out]; rfl
      · rw [HG.out]; exact RowAt.owns HOW.out
      · rw [HG.out, HD.out]; exact own_le HOW.out
      · rw [HR.out.1, HR.out.2.1]; exact HM.out
end Go.Proofs.Ytphjhlnjfcfdcaa
