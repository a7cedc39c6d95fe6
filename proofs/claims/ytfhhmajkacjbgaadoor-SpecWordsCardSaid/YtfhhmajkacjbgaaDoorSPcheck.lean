/-
  What is wrong with a pod, by package spec.
-/
import Derived.Test.YtfhhmajkacjbgaaDoorSFault
import Derived.Test.YtfhhmajkacjbgaaDoorDName
namespace Go.Proofs.YtfhhmajkacjbgaaDoor
open Go.ChangeShapes Go.WideShapes Go.ChangeAt Go.RowKit
attribute [local go_sem ↓] Go.wp_at_zero Go.wp_at_succ

def namesM (l : List CM) : List ByteArray := l.map fun m => m.c.name
set_option maxRecDepth 100000 in
set_option maxHeartbeats 4000000 in
theorem check_any (p : PM) (w : World) (hT : Tabs w) (h : p.At w) (hs : p.pd.Sml) (hpc : ∀ m ∈ p.cs, m.c.ports.length ≤ m.pc) :
    Calls Tryd.prog 9 #[p.val] w fun e w' => e = .returned (.int .i64 (podE p.pd)) ∧ Fresh w w' := by
  obtain ⟨name, ns, rs, gr, ho, a, cap, cs⟩ := p
  have HT := Lib.hid hT
  have HROW := Lib.hid h.row
  have HINS := Lib.hid h.ins
  have HPC := Lib.hid hpc
  have d1 : name.size ≤ 20000 := hs.name
  have d2 : ns.size ≤ 20000 := hs.ns
  have d3 : cs.length ≤ 1000 := by have := hs.len; simpa [PM.pd] using this
  have HSM : Hid (∀ m ∈ cs, m.c.Sml) := fun m hm => hs.cs m.c (List.mem_map.2 ⟨m, hm, rfl⟩)
  have HNM : Hid (∀ W, Calls Tryd.prog 27 #[.string name] W fun e w' => e = .returned (.bool (nameB name.data.toList)) ∧ Fresh W w') := fun W => by
    have := name_any name.data.toList W (by unfold maxLen; simp; omega)
    rwa [tx_of] at this
  have HLB := Lib.hid (fun W => label_any ns W (by unfold maxLen; omega))
  have HP : Hid (podE (PM.mk name ns rs gr ho a cap cs).pd = if headE (PM.mk name ns rs gr ho a cap cs).pd = 0 then csE [] (cs.map (·.c)) else headE (PM.mk name ns rs gr ho a cap cs).pd) := rfl
  have HH : Hid (headE (PM.mk name ns rs gr ho a cap cs).pd = if nameB name.data.toList = true ∧ labB ns.data.toList = true then (if rs < 0 ∨ 2 < rs ∨ gr < 1 ∨ 3600 < gr then 7 else if cs.length = 0 then 16 else if 16 < cs.length then 18 else 0) else 13) := by
    rw [Hid, headE]
    simp only [PM.pd, List.length_map]
  have HA := Lib.hid (at_new w (.cells #[.string name, .string ns, .int .i64 rs, .int .i64 gr, .bool ho, .slice a cs.length cap] 25))
  have HF0 := Lib.hid ((Fresh.refl w).alloc (.cells #[.string name, .string ns, .int .i64 rs, .int .i64 gr, .bool ho, .slice a cs.length cap] 25))
  have HKR := Lib.hid (fun W => knownR_any rs W)
  have HWI := Lib.hid (fun W => within_any gr 3600 W)
  have hmm := @run_makeMap Tryd.prog
  have HMM := Lib.hid hmm
  clear hmm
  dsimp only [PM.val] at *
  clear h hs hT hpc
  generalize podE (PM.mk name ns rs gr ho a cap cs).pd = R at *
  generalize headE (PM.mk name ns rs gr ho a cap cs).pd = H at *
  cases hn : nameB name.data.toList with
  | false =>
    rw [hn] at HNM
    have HR : Hid (R = 13) := by
      have : H = 13 := by rw [HH.out, if_neg (by rw [hn]; simp)]
      rw [Hid, HP.out, this, if_neg (by decide)]
    clear HH HP hn
    go_enter Tryd.func9, Tryd.ntmps9
    go_wp2_with (fail)
    refine (HNM.out _).mono ?_
    rintro e w1 ⟨rfl, hf⟩
    have HF := Lib.hid (HF0.out.trans hf)
    clear hf
    go_wp2
    go_ret
    exact ⟨ret_int HR.out.symm, HF.out⟩
  | true =>
    rw [hn] at HNM
    cases hl : labB ns.data.toList with
    | false =>
      rw [hl] at HLB
      have HR : Hid (R = 13) := by
        have : H = 13 := by rw [HH.out, if_neg (by rw [hl]; simp)]
        rw [Hid, HP.out, this, if_neg (by decide)]
      clear HH HP hn hl
      go_enter Tryd.func9, Tryd.ntmps9
      go_wp2_with (fail)
      refine (HNM.out _).mono ?_
      rintro e w1 ⟨rfl, hf⟩
      obtain ⟨⟨q0, q1, q2, q3, q4, q5⟩, _⟩ := box6p (hf.at HA.out)
      have HF := Lib.hid (HF0.out.trans hf)
      clear hf
      go_wp2_with (fail)
      refine (HLB.out _).mono ?_
      rintro e w2 ⟨rfl, rfl⟩
      go_wp2
      go_ret
      exact ⟨ret_int HR.out.symm, HF.out⟩
    | true =>
      rw [hl] at HLB
      have HH2 : Hid (H = if rs < 0 ∨ 2 < rs ∨ gr < 1 ∨ 3600 < gr then 7 else if cs.length = 0 then 16 else if 16 < cs.length then 18 else 0) := by rw [Hid, HH.out, if_pos ⟨hn, hl⟩]
      clear HH hn hl
      go_enter Tryd.func9, Tryd.ntmps9
      go_wp2_with (fail)
      refine (HNM.out _).mono ?_
      rintro e w1 ⟨rfl, hf⟩
      have hA1 := hf.at HA.out
      have HF1 := Lib.hid (HF0.out.trans hf)
      obtain ⟨⟨q0, q1, q2, q3, q4, q5⟩, _⟩ := box6p hA1
      have HA1 := Lib.hid hA1
      clear hA1 hf HA HF0
      obtain ⟨b, hb⟩ : ∃ b, b = w.heap.size := ⟨_, rfl⟩
      rw [← hb] at q0 q1 q2 q3 q4 q5 HA1 ⊢
      clear hb
      go_wp2_with (fail)
      refine (HLB.out _).mono ?_
      rintro e w2 ⟨rfl, rfl⟩
      go_wp2_with (fail)
      refine (HKR.out _).mono ?_
      rintro e w2 ⟨rfl, rfl⟩
      by_cases hrs : 0 ≤ rs ∧ rs < 3
      case neg =>
        have e0 : (decide (0 ≤ rs) && decide (rs < 3)) = false := by
          rw [Bool.eq_false_iff]; intro e
          simp only [Bool.and_eq_true, decide_eq_true_eq] at e
          exact hrs e
        rw [e0]
        have HR : Hid (R = 7) := by
          have : H = 7 := by rw [HH2.out, if_pos (by omega)]
          rw [Hid, HP.out, this, if_neg (by decide)]
        clear HH2 HP hrs e0
        go_wp2
        all_goals try (exfalso; omega)
        go_ret
        exact ⟨ret_int HR.out.symm, HF1.out⟩
      rw [decide_eq_true hrs.1, decide_eq_true hrs.2]
      go_wp2_with (fail)
      refine (HWI.out _).mono ?_
      rintro e w2 ⟨rfl, rfl⟩
      by_cases hgr : 1 ≤ gr ∧ gr ≤ 3600
      case neg =>
        have e0 : (decide (1 ≤ gr) && decide (gr ≤ 3600)) = false := by
          rw [Bool.eq_false_iff]; intro e
          simp only [Bool.and_eq_true, decide_eq_true_eq] at e
          exact hgr e
        rw [e0]
        have HR : Hid (R = 7) := by
          have : H = 7 := by rw [HH2.out, if_pos (by omega)]
          rw [Hid, HP.out, this, if_neg (by decide)]
        clear HH2 HP hrs hgr e0
        go_wp2
        all_goals try (exfalso; omega)
        go_ret
        exact ⟨ret_int HR.out.symm, HF1.out⟩
      rw [decide_eq_true hgr.1, decide_eq_true hgr.2]
      have HH3 : Hid (H = if cs.length = 0 then 16 else if 16 < cs.length then 18 else 0) := by rw [Hid, HH2.out, if_neg (by omega)]
      clear HH2 hrs hgr
      by_cases h0 : cs.length = 0
      · have HR : Hid (R = 16) := by
          have : H = 16 := by rw [HH3.out, if_pos h0]
          rw [Hid, HP.out, this, if_neg (by decide)]
        clear HH3 HP
        go_wp2
        all_goals try (exfalso; omega)
        all_goals go_ret
        all_goals exact ⟨ret_int HR.out.symm, HF1.out⟩
      by_cases h16 : 16 < cs.length
      · have HR : Hid (R = 18) := by
          have : H = 18 := by rw [HH3.out, if_neg h0, if_pos h16]
          rw [Hid, HP.out, this, if_neg (by decide)]
        have e5 : ((cs.length : Int) == 0) = false := by rw [beq_eq_false_iff_ne]; omega
        clear HH3 HP
        go_wp2
        all_goals try (exfalso; omega)
        all_goals go_ret
        all_goals exact ⟨ret_int HR.out.symm, HF1.out⟩
      have HR0 : Hid (R = csE [] (cs.map (·.c))) := by
        have : H = 0 := by rw [HH3.out, if_neg h0, if_neg h16]
        rw [Hid, HP.out, if_pos this]
      clear HP HH3
      have hpos : 0 < cs.length := by omega
      have e5 : ((cs.length : Int) == 0) = false := by rw [beq_eq_false_iff_ne]; omega
      clear h0
      have hmm := HMM.out
      have p5 : (w1.alloc (.map #[] 0)).cell? ⟨b, 5, none⟩ = some (.slice a cs.length cap) := ((Fresh.refl w1).alloc _).cell q5
      go_wp2
      all_goals try (exfalso; omega)
      clear p5
      have HM0 := Lib.hid (seen_made w1)
      have HFM := Lib.hid ((Fresh.refl w1).alloc (.map #[] 0))
      generalize w1.alloc (.map #[] 0) = W0 at *
      have HBW : Hid (w.heap.size ≤ w1.heap.size) := HF1.out.size
      generalize hbm : w1.heap.size = bm at *
      clear hmm q0 q1 q2 q3 q4 q5 hbm
      go_loopw [43] (fun a43 wr => ∃ (k : Nat), a43 = .int .i64 (k : Int) ∧ k ≤ cs.length ∧ Hid (R = csE (namesM (cs.take k)) ((cs.drop k).map (·.c))) ∧ Hid (seenIs wr bm k (namesM (cs.take k))) ∧ Hid (Fresh w wr)) (fun a43 _ => cs.length - (intOf a43).toNat)
      case atStart => exact ⟨0, rfl, Nat.zero_le _, HR0.out, HM0.out, HF1.out.trans HFM.out⟩
      case round =>
        obtain ⟨k, rfl, hk, HE, HS, HF⟩ := hrel
        by_cases hlt : k < cs.length
        · obtain ⟨g, o1, rfl, hc⟩ := crow_form (HROW.out.move HF.out) hlt
          obtain ⟨c0, c1, c2, c3, c4, c5, c6⟩ := hc k hlt
          have HTK : Hid (namesM (cs.take (k + 1)) = namesM (cs.take k) ++ [cs[k].c.name]) := by
            rw [Hid, List.take_succ_eq_append_getElem hlt]
            unfold namesM
            rw [List.map_append]; rfl
          have HST : Hid (R = if ctE (namesM (cs.take k)) cs[k].c = 0 then csE (namesM (cs.take (k + 1))) ((cs.drop (k + 1)).map (·.c)) else ctE (namesM (cs.take k)) cs[k].c) := by
            rw [Hid, HE.out, List.drop_eq_getElem_cons hlt, List.map_cons, csE, HTK.out]
          have HQ : Hid (∀ W, Fresh w W → seenIs W bm k (namesM (cs.take k)) → Calls Tryd.prog 31 #[cs[k].val, .map (some bm)] W fun e w' => e = .returned (.int .i64 (ctE (namesM (cs.take k)) cs[k].c)) ∧ (ctE (namesM (cs.take k)) cs[k].c = 0 → seenIs w' bm (k + 1) (namesM (cs.take k) ++ [cs[k].c.name])) ∧ Fresh w w') := fun W f hsn =>
            fault_any cs[k] w W bm k _ HT.out (HINS.out _ (List.getElem_mem hlt)) (HSM.out _ (List.getElem_mem hlt)) (HPC.out _ (List.getElem_mem hlt)) f HBW.out (by omega) hsn
          clear hc
          generalize ctE (namesM (cs.take k)) cs[k].c = E at *
          generalize cs[k] = m at *
          obtain ⟨⟨s0, s1, lc, lp, n4, n5, le⟩, ca, cc, pa, pc, ea, ec⟩ := m
          dsimp only [CM.val] at *
          generalize lc.length = z1 at *
          generalize lp.length = z2 at *
          generalize le.length = z3 at *
          have i1 : (0 : Int) ≤ (k : Int) := by omega
          have i2 : (k : Int) < (cs.length : Int) := by omega
          have HFA := Lib.hid ((Fresh.refl wr).alloc (.cells #[.string s0, .string s1, .slice ca z1 cc, .slice pa z2 pc, .int .i64 n4, .int .i64 n5, .slice ea z3 ec] 53))
          have HQ2 := Lib.hid (HQ.out _ (HF.out.trans HFA.out) (HS.out.fresh HFA.out))
          by_cases hE : E = 0
          · have HN : Hid (R = csE (namesM (cs.take (k + 1))) ((cs.drop (k + 1)).map (·.c))) := by rw [Hid, HST.out, if_pos hE]
            subst hE
            clear HST
            go_wp2_with (fail)
            all_goals try (exfalso; omega)
            refine HQ2.out.mono ?_
            rintro e W1 ⟨rfl, hs5, hf⟩
            have HF3 := Lib.hid hf
            have HS5 := Lib.hid (hs5 trivial)
            clear hf hs5
            go_wp2
            all_goals try (exfalso; omega)
            go_roundw
            case rel => exact ⟨k + 1, by simp, by omega, HN.out, by rw [HTK.out]; exact HS5.out, HF3.out⟩
            case measure => simp [intOf]; omega
          · have HR : Hid (R = E) := by rw [Hid, HST.out, if_neg hE]
            have e0 : (E == 0) = false := by rw [beq_eq_false_iff_ne]; exact hE
            have e1 : (E != 0) = true := by simp [hE]
            clear HST
            go_wp2_with (fail)
            all_goals try (exfalso; omega)
            refine HQ2.out.mono ?_
            rintro e W1 ⟨rfl, hs5, hf⟩
            have HF3 := Lib.hid hf
            clear hf hs5
            go_wp2
            all_goals try (exfalso; omega)
            go_ret
            exact ⟨ret_int HR.out.symm, HF3.out⟩
        · obtain rfl : k = cs.length := by omega
          have HR : Hid (R = 0) := by rw [Hid, HE.out, List.drop_length]; rfl
          go_wp2
          all_goals try (exfalso; omega)
          go_ret
          exact ⟨ret_int HR.out.symm, HF.out⟩
end Go.Proofs.YtfhhmajkacjbgaaDoor
