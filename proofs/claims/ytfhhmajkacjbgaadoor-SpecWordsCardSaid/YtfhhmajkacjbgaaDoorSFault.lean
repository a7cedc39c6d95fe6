/-
  What is wrong with a container, by package spec.
-/
import Derived.Test.YtfhhmajkacjbgaaDoorSCmd
import Derived.Test.YtfhhmajkacjbgaaDoorSPorts
import Derived.Test.YtfhhmajkacjbgaaDoorSEnv
import Derived.Test.YtfhhmajkacjbgaaDoorSSmall
namespace Go.Proofs.YtfhhmajkacjbgaaDoor
open Go.ChangeShapes Go.WideShapes Go.ChangeAt Go.RowKit
attribute [local go_sem ↓] Go.wp_at_zero Go.wp_at_succ

theorem ctE_name (al : List ByteArray) (c : Ct) : ctE al c = if nameE (labB c.name.data.toList) c.name al = 0 then restE c else nameE (labB c.name.data.toList) c.name al := by
  unfold ctE nameE
  cases labB c.name.data.toList <;> cases memT c.name al <;> simp
theorem restE_all {c : Ct} (h : imgB c.image.data.toList = true) (h2 : manyE c = false) (h3 : rangeE c = false) : restE c = if cmdE c.cmd = 0 then (if portsE [] c.ports = 0 then envE [] c.env else portsE [] c.ports) else cmdE c.cmd := by
  unfold restE
  rw [if_pos h, if_neg (by rw [h2]; decide), if_neg (by rw [h3]; decide)]
set_option maxRecDepth 100000 in
set_option maxHeartbeats 4000000 in
/-- w0: a world ahead, in which the container's rows lay; block b, made behind it, holds the names that were met. -/
theorem fault_any (m : CM) (w0 w : World) (b n : Nat) (L : List ByteArray) (hT : Tabs w0) (hm : m.In w0) (hs : m.c.Sml) (hcap : m.c.ports.length ≤ m.pc) (hf0 : Fresh w0 w) (hb : w0.heap.size ≤ b) (hn : n ≤ 1000) (hS : seenIs w b n L) :
    Calls Tryd.prog 31 #[m.val, .map (some b)] w fun e w' => e = .returned (.int .i64 (ctE L m.c)) ∧ (ctE L m.c = 0 → seenIs w' b (n + 1) (L ++ [m.c.name])) ∧ Fresh w0 w' := by
  obtain ⟨⟨s0, s1, lc, lp, n4, n5, le⟩, ca, cc, pa, pc, ea, ec⟩ := m
  have HSM := Lib.hid hs
  have HNE := Lib.hid (ctE_name L ⟨s0, s1, lc, lp, n4, n5, le⟩)
  have HLN := Lib.hid (fun W => label_any s0 W (Nat.le_trans (show s0.size ≤ 20000 from HSM.out.name) (by unfold maxLen; omega)))
  have HIM := Lib.hid (fun W => image_any s1 W (Nat.le_trans (show s1.size ≤ 20000 from HSM.out.image) (by unfold maxLen; omega)))
  have HF0 := Lib.hid hf0
  have HCM := Lib.hid (fun W (f : Fresh w0 W) => cmdFault_any lc ca cc W (hT.move f) (hm.cmd.move f) (by have := HSM.out.lc; dsimp only at this; omega) (fun s h => by have := HSM.out.cmd s h; omega))
  have HPO := Lib.hid (fun W (f : Fresh w0 W) => portsFault_any lp pa pc W (hm.ports.move f) (by have := HSM.out.lp; dsimp only at this; omega) hcap)
  have HEN := Lib.hid (fun W (f : Fresh w0 W) => envFault_any le ea ec W (hT.move f) (hm.env.move f) (by have := HSM.out.le; dsimp only at this; omega) (fun s h => by have := HSM.out.env s h; omega))
  have HBB := Lib.hid hb
  have HSN := Lib.hid hS
  have HZ : Hid (s0.size ≤ 1000000) := by have := HSM.out.name; rw [Hid]; dsimp only at this; omega
  have HIMG := Lib.hid (fun (h : imgB s1.data.toList = false) => (show restE ⟨s0, s1, lc, lp, n4, n5, le⟩ = 6 by unfold restE; rw [if_neg (by rw [h]; decide)]))
  have HMANY := Lib.hid (fun (h : imgB s1.data.toList = true) (h2 : manyE ⟨s0, s1, lc, lp, n4, n5, le⟩ = true) => (show restE ⟨s0, s1, lc, lp, n4, n5, le⟩ = 18 by unfold restE; rw [if_pos h, if_pos h2]))
  have HRANGE := Lib.hid (fun (h : imgB s1.data.toList = true) (h2 : manyE ⟨s0, s1, lc, lp, n4, n5, le⟩ = false) (h3 : rangeE ⟨s0, s1, lc, lp, n4, n5, le⟩ = true) => (show restE ⟨s0, s1, lc, lp, n4, n5, le⟩ = 7 by unfold restE; rw [if_pos h, if_neg (by rw [h2]; decide), if_pos h3]))
  have HALL := Lib.hid (fun (h : imgB s1.data.toList = true) (h2 : manyE ⟨s0, s1, lc, lp, n4, n5, le⟩ = false) (h3 : rangeE ⟨s0, s1, lc, lp, n4, n5, le⟩ = false) => @restE_all ⟨s0, s1, lc, lp, n4, n5, le⟩ h h2 h3)
  have HMD : Hid (manyE ⟨s0, s1, lc, lp, n4, n5, le⟩ = (decide (16 < lc.length) || (decide (16 < lp.length) || decide (16 < le.length)))) := rfl
  have HRD : Hid (rangeE ⟨s0, s1, lc, lp, n4, n5, le⟩ = (decide (n4 < 1) || (decide (64000 < n4) || (decide (n5 < 1) || decide (1048576 < n5))))) := rfl
  have HBX := Lib.hid (at_new w (.cells #[.string s0, .string s1, .slice ca lc.length cc, .slice pa lp.length pc, .int .i64 n4, .int .i64 n5, .slice ea le.length ec] 53))
  have HF1 := Lib.hid ((Fresh.refl w).alloc (.cells #[.string s0, .string s1, .slice ca lc.length cc, .slice pa lp.length pc, .int .i64 n4, .int .i64 n5, .slice ea le.length ec] 53))
  dsimp only [CM.val] at *
  clear hT hm hs hcap hf0 hb hS HSM
  generalize ctE L ⟨s0, s1, lc, lp, n4, n5, le⟩ = E at *
  generalize restE ⟨s0, s1, lc, lp, n4, n5, le⟩ = RE at *
  generalize manyE ⟨s0, s1, lc, lp, n4, n5, le⟩ = MN at *
  generalize rangeE ⟨s0, s1, lc, lp, n4, n5, le⟩ = RN at *
  generalize cmdE lc = CE at *
  generalize portsE [] lp = PE at *
  generalize envE [] le = EE at *
  have HNF : Hid (∀ W, W.heap[b]? = w.heap[b]? → Calls Tryd.prog 50 #[.string s0, .bool (labB s0.data.toList), .map (some b)] W fun e w' => e = .returned (.int .i64 (nameE (labB s0.data.toList) s0 L)) ∧ (nameE (labB s0.data.toList) s0 L = 0 → seenIs w' b (n + 1) (L ++ [s0])) ∧ W.grownBy w' (some b)) := fun W hW =>
    nameFault_any s0 _ b n L W HZ.out (by omega) (HSN.out.move hW)
  generalize nameE (labB s0.data.toList) s0 L = ne at *
  generalize labB s0.data.toList = lb at *
  generalize imgB s1.data.toList = ib at *
  generalize lc.length = z1 at *
  generalize lp.length = z2 at *
  generalize le.length = z3 at *
  have HSB : Hid ((w.alloc (.cells #[.string s0, .string s1, .slice ca z1 cc, .slice pa z2 pc, .int .i64 n4, .int .i64 n5, .slice ea z3 ec] 53)).heap[b]? = w.heap[b]?) := HF1.out.block b HSN.out.lt
  have HNB : Hid (w.heap.size ≠ b) := by have := HSN.out.lt; rw [Hid]; omega
  go_enter Tryd.func31, Tryd.ntmps31
  go_wp2_with (fail)
  all_goals try (exfalso; omega)
  generalize hW1 : w.alloc (.cells #[.string s0, .string s1, .slice ca z1 cc, .slice pa z2 pc, .int .i64 n4, .int .i64 n5, .slice ea z3 ec] 53) = W1 at *
  clear hW1
  generalize hz : w.heap.size = z at *
  clear hz
  have r0 := cell_of_at HBX.out (i := 0) (v := .string s0) rfl
  have HKP : Hid (∀ w', W1.drew.grownBy w' (some b) → w'.cell? ⟨z, 0, none⟩ = some (.string s0) ∧ Box7 53 w' z s0 s1 (.slice ca z1 cc) (.slice pa z2 pc) n4 n5 (.slice ea z3 ec) ∧ Fresh w0 w') := fun w' hg =>
    ⟨cell_grown hg (cell_of_at HBX.out (i := 0) (v := .string s0) rfl) HNB.out, (hg.block z (lt_of_at HBX.out) (fun e => HNB.out (Option.some.inj e))).trans HBX.out, (HF0.out.trans HF1.out).drew.grown hg (fun g e => by cases e; exact HBB.out)⟩
  have HV2 := Lib.hid (HLN.out W1.drew)
  have HQ2 := Lib.hid (HNF.out W1.drew HSB.out)
  go_region_held3 (fun w' => w'.cell? ⟨z, 0, none⟩ = some (.string s0)) (go_keep)
    (first | (go_at_call 28; (with_reducible refine HV2.out.mono ?_); rintro e W2 ⟨rfl, rfl⟩) | (go_at_call 50; (with_reducible refine HQ2.out.mono ?_); rintro e W2 ⟨rfl, hs5, hg⟩; have HS5 := Lib.hid hs5; obtain ⟨k0, k1, k2⟩ := HKP.out _ hg; have HF5 := Lib.hid k2; have HB5 := Lib.hid k1; clear hs5 hg k2 k1))
  clear r0 k0 HV2 HQ2 HKP HNF HLN
  by_cases hne : ne = 0
  case neg =>
    have HR : Hid (E = ne) := by rw [Hid, HNE.out, if_neg hne]
    have e0 : (ne == 0) = false := by rw [beq_eq_false_iff_ne]; exact hne
    have e1 : (ne != 0) = true := by simp [hne]
    have HR3 := Lib.hid hne
    clear hne
    go_wp2
    all_goals try (exfalso; omega)
    go_ret
    exact ⟨ret_int HR.out.symm, fun e => absurd (HR.out.symm.trans e) HR3.out, HF5.out⟩
  have HE1 : Hid (E = RE) := by rw [Hid, HNE.out, if_pos hne]
  have HS6 := Lib.hid (HS5.out hne)
  subst hne
  clear HNE HS5 HSN
  obtain ⟨⟨c0, c1, c2, c3, c4, c5, c6⟩, _⟩ := HB5.out.cells
  clear c0
  cases ib with
  | false =>
    have HR : Hid (E = 6) := HE1.out.trans (HIMG.out rfl)
    clear HIMG HMANY HRANGE HALL
    go_wp2_with (go_at_call 51; refine (HIM.out _).mono ?_; rintro e w' ⟨rfl, rfl⟩)
    all_goals try (exfalso; omega)
    go_ret
    exact ⟨ret_int HR.out.symm, fun e => absurd (HR.out.symm.trans e) (by decide), HF5.out⟩
  | true =>
    cases MN with
    | true =>
      have HR : Hid (E = 18) := HE1.out.trans (HMANY.out rfl rfl)
      have hd : 16 < z1 ∨ 16 < z2 ∨ 16 < z3 := by
        have := HMD.out.symm
        simp only [Bool.or_eq_true, decide_eq_true_eq] at this
        exact this
      clear HIMG HMANY HRANGE HALL HMD HRD
      go_wp2_with (go_at_call 51; refine (HIM.out _).mono ?_; rintro e w' ⟨rfl, rfl⟩)
      all_goals try (exfalso; omega)
      all_goals go_ret
      all_goals exact ⟨ret_int HR.out.symm, fun e => absurd (HR.out.symm.trans e) (by decide), HF5.out⟩
    | false =>
      have hd : z1 ≤ 16 ∧ z2 ≤ 16 ∧ z3 ≤ 16 := by
        have := HMD.out.symm
        simp only [Bool.or_eq_false_iff, decide_eq_false_iff_not] at this
        omega
      obtain ⟨d1, d2, d3⟩ := hd
      obtain ⟨mx, hmx⟩ : ∃ mx : Int, (if (if z1 < z2 then (z2 : Int) else (z1 : Int)) < (z3 : Int) then (z3 : Int) else if z1 < z2 then (z2 : Int) else (z1 : Int)) = mx := ⟨_, rfl⟩
      have hm16 : mx ≤ 16 := by rw [← hmx]; split <;> split <;> omega
      cases RN with
      | true =>
        have HR : Hid (E = 7) := HE1.out.trans (HRANGE.out rfl rfl rfl)
        have hd : n4 < 1 ∨ 64000 < n4 ∨ n5 < 1 ∨ 1048576 < n5 := by
          have := HRD.out.symm
          simp only [Bool.or_eq_true, decide_eq_true_eq] at this
          exact this
        clear HIMG HMANY HRANGE HALL HMD HRD
        have HW1 := Lib.hid (fun W => within_any n4 64000 W)
        have HW2 := Lib.hid (fun W => within_any n5 1048576 W)
        by_cases hw : 1 ≤ n4 ∧ n4 ≤ 64000
        · rw [decide_eq_true hw.1, decide_eq_true hw.2] at HW1
          have hw3 : (decide (1 ≤ n5) && decide (n5 ≤ 1048576)) = false := by
            rw [Bool.eq_false_iff]; intro e
            simp only [Bool.and_eq_true, decide_eq_true_eq] at e
            omega
          rw [hw3] at HW2
          clear hw hw3 hd
          go_wp2_with (fail)
          all_goals try (exfalso; omega)
          refine (HIM.out _).mono ?_
          rintro e w' ⟨rfl, rfl⟩
          go_wp2_with (fail)
          all_goals try (exfalso; omega)
          refine (HW1.out _).mono ?_
          rintro e w' ⟨rfl, rfl⟩
          go_wp2_with (fail)
          all_goals try (exfalso; omega)
          refine (HW2.out _).mono ?_
          rintro e w' ⟨rfl, rfl⟩
          go_wp2
          all_goals try (exfalso; omega)
          go_ret
          exact ⟨ret_int HR.out.symm, fun e => absurd (HR.out.symm.trans e) (by decide), HF5.out⟩
        · have hw3 : (decide (1 ≤ n4) && decide (n4 ≤ 64000)) = false := by
            rw [Bool.eq_false_iff]; intro e
            simp only [Bool.and_eq_true, decide_eq_true_eq] at e
            exact hw e
          rw [hw3] at HW1
          clear hw hw3 hd HW2
          go_wp2_with (fail)
          all_goals try (exfalso; omega)
          refine (HIM.out _).mono ?_
          rintro e w' ⟨rfl, rfl⟩
          go_wp2_with (fail)
          all_goals try (exfalso; omega)
          refine (HW1.out _).mono ?_
          rintro e w' ⟨rfl, rfl⟩
          go_wp2
          all_goals try (exfalso; omega)
          go_ret
          exact ⟨ret_int HR.out.symm, fun e => absurd (HR.out.symm.trans e) (by decide), HF5.out⟩
      | false =>
        have hd : 1 ≤ n4 ∧ n4 ≤ 64000 ∧ 1 ≤ n5 ∧ n5 ≤ 1048576 := by
          have := HRD.out.symm
          simp only [Bool.or_eq_false_iff, decide_eq_false_iff_not] at this
          omega
        have HE2 : Hid (E = if CE = 0 then (if PE = 0 then EE else PE) else CE) := HE1.out.trans (HALL.out rfl rfl rfl)
        have HW1 := Lib.hid (fun W => within_any n4 64000 W)
        have HW2 := Lib.hid (fun W => within_any n5 1048576 W)
        rw [decide_eq_true hd.1, decide_eq_true hd.2.1] at HW1
        rw [decide_eq_true hd.2.2.1, decide_eq_true hd.2.2.2] at HW2
        clear hd HIMG HMANY HRANGE HALL HMD HRD HE1
        go_wp2_with (fail)
        all_goals try (exfalso; omega)
        refine (HIM.out _).mono ?_
        rintro e w' ⟨rfl, rfl⟩
        go_wp2_with (fail)
        all_goals try (exfalso; omega)
        refine (HW1.out _).mono ?_
        rintro e w' ⟨rfl, rfl⟩
        go_wp2_with (fail)
        all_goals try (exfalso; omega)
        refine (HW2.out _).mono ?_
        rintro e w' ⟨rfl, rfl⟩
        go_wp2_with (fail)
        all_goals try (exfalso; omega)
        refine (HCM.out _ HF5.out).mono ?_
        rintro e V1 ⟨rfl, hf⟩
        have HF6 := Lib.hid (HF5.out.trans hf)
        have HB6 := Lib.hid (hf.at HB5.out)
        have HS7 := Lib.hid (HS6.out.fresh hf)
        clear hf c1 c2 c3 c4 c5 c6 HB5 HS6
        by_cases hce : CE = 0
        case neg =>
          have HR : Hid (E = CE) := by rw [Hid, HE2.out, if_neg hce]
          have e0 : (CE == 0) = false := by rw [beq_eq_false_iff_ne]; exact hce
          have e1 : (CE != 0) = true := by simp [hce]
          have HR3 := Lib.hid hce
          clear hce HE2
          go_wp2
          all_goals try (exfalso; omega)
          go_ret
          exact ⟨ret_int HR.out.symm, fun e => absurd (HR.out.symm.trans e) HR3.out, HF6.out⟩
        have HE3 : Hid (E = if PE = 0 then EE else PE) := by rw [Hid, HE2.out, if_pos hce]
        subst hce
        clear HE2
        obtain ⟨⟨c0, c1, c2, c3, c4, c5, c6⟩, _⟩ := Box7.cells (show Box7 53 V1 z s0 s1 (.slice ca z1 cc) (.slice pa z2 pc) n4 n5 (.slice ea z3 ec) from HB6.out)
        clear c0 c1 c2 c4 c5
        go_wp2_with (fail)
        refine (HPO.out _ HF6.out).mono ?_
        rintro e V2 ⟨rfl, hf⟩
        have HF7 := Lib.hid (HF6.out.trans hf)
        have HB7 := Lib.hid (hf.at HB6.out)
        have HS8 := Lib.hid (HS7.out.fresh hf)
        clear hf c3 c6 HB6 HS7
        by_cases hpe : PE = 0
        case neg =>
          have HR : Hid (E = PE) := by rw [Hid, HE3.out, if_neg hpe]
          have e0 : (PE == 0) = false := by rw [beq_eq_false_iff_ne]; exact hpe
          have e1 : (PE != 0) = true := by simp [hpe]
          have HR3 := Lib.hid hpe
          clear hpe HE3
          go_wp2
          all_goals try (exfalso; omega)
          go_ret
          exact ⟨ret_int HR.out.symm, fun e => absurd (HR.out.symm.trans e) HR3.out, HF7.out⟩
        have HR : Hid (E = EE) := by rw [Hid, HE3.out, if_pos hpe]
        subst hpe
        clear HE3
        obtain ⟨⟨c0, c1, c2, c3, c4, c5, c6⟩, _⟩ := Box7.cells (show Box7 53 V2 z s0 s1 (.slice ca z1 cc) (.slice pa z2 pc) n4 n5 (.slice ea z3 ec) from HB7.out)
        clear c0 c1 c2 c3 c4 c5
        go_wp2_with (fail)
        refine (HEN.out _ HF7.out).mono ?_
        rintro e V3 ⟨rfl, hf⟩
        have HF8 := Lib.hid (HF7.out.trans hf)
        have HS9 := Lib.hid (HS8.out.fresh hf)
        clear hf c6
        go_wp2
        go_ret
        exact ⟨ret_int HR.out.symm, fun _ => HS9.out, HF8.out⟩
end Go.Proofs.YtfhhmajkacjbgaaDoor
