/-
  slices.Equal at texts, ports and variables.
  Are two containers alike, by package spec?
  Are two rows of containers alike, by package spec; two pods?
-/
import Derived.Test.YtmomlgkpdoapoaaGreatDoorCat02
import Derived.Deep.QuietTactic
import Derived.BigQuiet
import Derived.Test.YtmomlgkpdoapoaaGreatDoorCat11
set_option linter.unusedSimpArgs false
set_option linter.unusedVariables false
namespace Go.Proofs.YtmomlgkpdoapoaaGreatDoor
open Go.ChangeShapes Go.WideShapes Go.ChangeAt Go.RowKit
set_option maxRecDepth 100000 in
set_option maxHeartbeats 1000000 in
theorem eqT_any (l m : List ByteArray) (a b : Option Addr) (ca cb : Nat) (w : World) (ha : RowAt w a (tcells l)) (hb : RowAt w b (tcells m)) (hl : l.length ≤ 4000000) (hm : m.length ≤ 4000000) :
    Calls Tryz.prog 99 #[.slice a l.length ca, .slice b m.length cb] w fun e w' => e = .returned (.bool (decide (l = m))) ∧ Fresh w w' := by
  by_cases hlen : l.length = m.length
  · have HA := Lib.hid ha
    have HB := Lib.hid hb
    have HLEN := Lib.hid hlen
    clear ha hb
    rw [← hlen]
    clear hlen
    go_enter Tryz.func99, Tryz.ntmps99
    go_wp2
    all_goals try (exfalso; omega)
    go_loopw [13] (fun a13 wr => ∃ (k : Nat), a13 = .int .i64 (k : Int) ∧ k ≤ l.length ∧ Hid (Fresh w wr) ∧ Hid (∀ j (h1 : j < l.length) (h2 : j < m.length), j < k → l[j] = m[j])) (fun a13 _ => l.length - (intOf a13).toNat)
    case atStart => exact ⟨0, rfl, Nat.zero_le _, Fresh.refl _, fun _ _ _ h => absurd h (Nat.not_lt_zero _)⟩
    case round =>
      obtain ⟨k, rfl, hk, HF, HE⟩ := hrel
      by_cases hlt : k < l.length
      · have hlt2 : k < m.length := by rw [← HLEN.out]; exact hlt
        obtain ⟨g1, o1, rfl, hc1⟩ := trow_form (HA.out.move HF.out) hlt
        obtain ⟨g2, o2, rfl, hc2⟩ := trow_form (HB.out.move HF.out) hlt2
        have c1 := hc1 k hlt
        have c2 := hc2 k hlt2
        clear hc1 hc2
        have HNO : Hid (l[k] ≠ m[k] → decide (l = m) = false) := fun h => by
          rw [decide_eq_false_iff_not]
          intro e
          subst e
          exact h rfl
        have HYES : Hid (l[k] = m[k] → ∀ j (h1 : j < l.length) (h2 : j < m.length), j < k + 1 → l[j] = m[j]) := fun h j h1 h2 hj => by
          rcases Nat.lt_or_ge j k with h3 | h3
          · exact HE.out j h1 h2 h3
          · obtain rfl : j = k := by omega
            exact h
        generalize l[k] = x at *
        generalize m[k] = y at *
        by_cases hxy : x = y
        · have HY2 := Lib.hid (HYES.out hxy)
          clear HYES HNO
          subst hxy
          go_wp2_with (fail)
          go_quiet (fail)
          go_wp2
          all_goals try (exfalso; omega)
          go_roundw
          case rel => exact ⟨k + 1, by simp, by omega, HF.out.trans (fresh_drewN _ _), HY2.out⟩
          case measure => simp [intOf]; omega
        · have HN2 := Lib.hid (HNO.out hxy)
          clear HYES HNO
          have e0 := tl_ne hxy
          go_wp2_with (fail)
          go_quiet (fail)
          go_wp2
          all_goals try (exfalso; omega)
          go_ret
          exact ⟨ret_bool HN2.out.symm, HF.out.trans (fresh_drewN _ _)⟩
      · obtain rfl : k = l.length := by omega
        have HR : Hid (decide (l = m) = true) := by
          rw [Hid, decide_eq_true_eq]
          exact lists_eq HLEN.out (fun j h1 h2 => HE.out j h1 h2 h1)
        go_wp2
        all_goals try (exfalso; omega)
        go_ret
        exact ⟨ret_bool HR.out.symm, HF.out⟩
  · have HR : Hid (decide (l = m) = false) := by
      rw [Hid, decide_eq_false_iff_not]
      intro e
      exact hlen (by rw [e])
    have e0 : ((l.length : Int) == (m.length : Int)) = false := by rw [beq_eq_false_iff_ne]; omega
    go_enter Tryz.func99, Tryz.ntmps99
    go_wp2
    all_goals try (exfalso; omega)
    go_ret
    exact ⟨ret_bool HR.out.symm, Fresh.refl _⟩
set_option maxRecDepth 100000 in
set_option maxHeartbeats 1000000 in
theorem eqP_any (l m : List (Int × Int)) (a b : Option Addr) (ca cb : Nat) (w : World) (ha : RowAt w a (pcells l)) (hb : RowAt w b (pcells m)) (hl : l.length ≤ 4000000) (hm : m.length ≤ 4000000) :
    Calls Tryz.prog 100 #[.slice a l.length ca, .slice b m.length cb] w fun e w' => e = .returned (.bool (decide (l = m))) ∧ Fresh w w' := by
  by_cases hlen : l.length = m.length
  · have HA := Lib.hid ha
    have HB := Lib.hid hb
    have HLEN := Lib.hid hlen
    clear ha hb
    rw [← hlen]
    clear hlen
    go_enter Tryz.func100, Tryz.ntmps100
    go_wp2
    all_goals try (exfalso; omega)
    go_loopw [13] (fun a13 wr => ∃ (k : Nat), a13 = .int .i64 (k : Int) ∧ k ≤ l.length ∧ Hid (Fresh w wr) ∧ Hid (∀ j (h1 : j < l.length) (h2 : j < m.length), j < k → l[j] = m[j])) (fun a13 _ => l.length - (intOf a13).toNat)
    case atStart => exact ⟨0, rfl, Nat.zero_le _, Fresh.refl _, fun _ _ _ h => absurd h (Nat.not_lt_zero _)⟩
    case round =>
      obtain ⟨k, rfl, hk, HF, HE⟩ := hrel
      by_cases hlt : k < l.length
      · have hlt2 : k < m.length := by rw [← HLEN.out]; exact hlt
        obtain ⟨g1, o1, rfl, hc1⟩ := prow_form (HA.out.move HF.out) hlt
        obtain ⟨g2, o2, rfl, hc2⟩ := prow_form (HB.out.move HF.out) hlt2
        obtain ⟨c1, c2⟩ := hc1 k hlt
        obtain ⟨c3, c4⟩ := hc2 k hlt2
        clear hc1 hc2
        have HNO : Hid (l[k] ≠ m[k] → decide (l = m) = false) := fun h => by
          rw [decide_eq_false_iff_not]
          intro e
          subst e
          exact h rfl
        have HYES : Hid (l[k] = m[k] → ∀ j (h1 : j < l.length) (h2 : j < m.length), j < k + 1 → l[j] = m[j]) := fun h j h1 h2 hj => by
          rcases Nat.lt_or_ge j k with h3 | h3
          · exact HE.out j h1 h2 h3
          · obtain rfl : j = k := by omega
            exact h
        generalize l[k] = x at *
        generalize m[k] = y at *
        obtain ⟨x1, x2⟩ := x
        obtain ⟨y1, y2⟩ := y
        dsimp only at c1 c2 c3 c4
        by_cases h1 : x1 = y1
        · by_cases h2 : x2 = y2
          · have HY2 := Lib.hid (HYES.out (by rw [h1, h2]))
            clear HYES HNO
            subst h1 h2
            go_wp2_with (fail)
            go_quiet (fail)
            go_wp2
            all_goals try (exfalso; omega)
            go_roundw
            case rel => exact ⟨k + 1, by simp, by omega, HF.out.trans (fresh_drewN _ _), HY2.out⟩
            case measure => simp [intOf]; omega
          · have HN2 := Lib.hid (HNO.out (fun e => h2 (by cases e; rfl)))
            clear HYES HNO
            subst h1
            have e0 : (x2 == y2) = false := by rw [beq_eq_false_iff_ne]; exact h2
            go_wp2_with (fail)
            go_quiet (fail)
            go_wp2
            all_goals try (exfalso; omega)
            go_ret
            exact ⟨ret_bool HN2.out.symm, HF.out.trans (fresh_drewN _ _)⟩
        · have HN2 := Lib.hid (HNO.out (fun e => h1 (by cases e; rfl)))
          clear HYES HNO
          have e0 : (x1 == y1) = false := by rw [beq_eq_false_iff_ne]; exact h1
          go_wp2_with (fail)
          go_quiet (fail)
          go_wp2
          all_goals try (exfalso; omega)
          go_ret
          exact ⟨ret_bool HN2.out.symm, HF.out.trans (fresh_drewN _ _)⟩
      · obtain rfl : k = l.length := by omega
        have HR : Hid (decide (l = m) = true) := by
          rw [Hid, decide_eq_true_eq]
          exact lists_eq HLEN.out (fun j h1 h2 => HE.out j h1 h2 h1)
        go_wp2
        all_goals try (exfalso; omega)
        go_ret
        exact ⟨ret_bool HR.out.symm, HF.out⟩
  · have HR : Hid (decide (l = m) = false) := by
      rw [Hid, decide_eq_false_iff_not]
      intro e
      exact hlen (by rw [e])
    have e0 : ((l.length : Int) == (m.length : Int)) = false := by rw [beq_eq_false_iff_ne]; omega
    go_enter Tryz.func100, Tryz.ntmps100
    go_wp2
    all_goals try (exfalso; omega)
    go_ret
    exact ⟨ret_bool HR.out.symm, Fresh.refl _⟩
set_option maxRecDepth 100000 in
set_option maxHeartbeats 1000000 in
theorem eqE_any (l m : List (ByteArray × ByteArray)) (a b : Option Addr) (ca cb : Nat) (w : World) (ha : RowAt w a (ecells l)) (hb : RowAt w b (ecells m)) (hl : l.length ≤ 4000000) (hm : m.length ≤ 4000000) :
    Calls Tryz.prog 101 #[.slice a l.length ca, .slice b m.length cb] w fun e w' => e = .returned (.bool (decide (l = m))) ∧ Fresh w w' := by
  by_cases hlen : l.length = m.length
  · have HA := Lib.hid ha
    have HB := Lib.hid hb
    have HLEN := Lib.hid hlen
    clear ha hb
    rw [← hlen]
    clear hlen
    go_enter Tryz.func101, Tryz.ntmps101
    go_wp2
    all_goals try (exfalso; omega)
    go_loopw [13] (fun a13 wr => ∃ (k : Nat), a13 = .int .i64 (k : Int) ∧ k ≤ l.length ∧ Hid (Fresh w wr) ∧ Hid (∀ j (h1 : j < l.length) (h2 : j < m.length), j < k → l[j] = m[j])) (fun a13 _ => l.length - (intOf a13).toNat)
    case atStart => exact ⟨0, rfl, Nat.zero_le _, Fresh.refl _, fun _ _ _ h => absurd h (Nat.not_lt_zero _)⟩
    case round =>
      obtain ⟨k, rfl, hk, HF, HE⟩ := hrel
      by_cases hlt : k < l.length
      · have hlt2 : k < m.length := by rw [← HLEN.out]; exact hlt
        obtain ⟨g1, o1, rfl, hc1⟩ := erow_form (HA.out.move HF.out) hlt
        obtain ⟨g2, o2, rfl, hc2⟩ := erow_form (HB.out.move HF.out) hlt2
        obtain ⟨c1, c2⟩ := hc1 k hlt
        obtain ⟨c3, c4⟩ := hc2 k hlt2
        clear hc1 hc2
        have HNO : Hid (l[k] ≠ m[k] → decide (l = m) = false) := fun h => by
          rw [decide_eq_false_iff_not]
          intro e
          subst e
          exact h rfl
        have HYES : Hid (l[k] = m[k] → ∀ j (h1 : j < l.length) (h2 : j < m.length), j < k + 1 → l[j] = m[j]) := fun h j h1 h2 hj => by
          rcases Nat.lt_or_ge j k with h3 | h3
          · exact HE.out j h1 h2 h3
          · obtain rfl : j = k := by omega
            exact h
        generalize l[k] = x at *
        generalize m[k] = y at *
        obtain ⟨x1, x2⟩ := x
        obtain ⟨y1, y2⟩ := y
        dsimp only at c1 c2 c3 c4
        by_cases h1 : x1 = y1
        · by_cases h2 : x2 = y2
          · have HY2 := Lib.hid (HYES.out (by rw [h1, h2]))
            clear HYES HNO
            subst h1 h2
            go_wp2_with (fail)
            go_quiet (fail)
            go_wp2
            all_goals try (exfalso; omega)
            go_roundw
            case rel => exact ⟨k + 1, by simp, by omega, HF.out.trans (fresh_drewN _ _), HY2.out⟩
            case measure => simp [intOf]; omega
          · have HN2 := Lib.hid (HNO.out (fun e => h2 (by cases e; rfl)))
            clear HYES HNO
            subst h1
            have e0 := tl_ne h2
            go_wp2_with (fail)
            go_quiet (fail)
            go_wp2
            all_goals try (exfalso; omega)
            go_ret
            exact ⟨ret_bool HN2.out.symm, HF.out.trans (fresh_drewN _ _)⟩
        · have HN2 := Lib.hid (HNO.out (fun e => h1 (by cases e; rfl)))
          clear HYES HNO
          have e0 := tl_ne h1
          go_wp2_with (fail)
          go_quiet (fail)
          go_wp2
          all_goals try (exfalso; omega)
          go_ret
          exact ⟨ret_bool HN2.out.symm, HF.out.trans (fresh_drewN _ _)⟩
      · obtain rfl : k = l.length := by omega
        have HR : Hid (decide (l = m) = true) := by
          rw [Hid, decide_eq_true_eq]
          exact lists_eq HLEN.out (fun j h1 h2 => HE.out j h1 h2 h1)
        go_wp2
        all_goals try (exfalso; omega)
        go_ret
        exact ⟨ret_bool HR.out.symm, HF.out⟩
  · have HR : Hid (decide (l = m) = false) := by
      rw [Hid, decide_eq_false_iff_not]
      intro e
      exact hlen (by rw [e])
    have e0 : ((l.length : Int) == (m.length : Int)) = false := by rw [beq_eq_false_iff_ne]; omega
    go_enter Tryz.func101, Tryz.ntmps101
    go_wp2
    all_goals try (exfalso; omega)
    go_ret
    exact ⟨ret_bool HR.out.symm, Fresh.refl _⟩
end Go.Proofs.YtmomlgkpdoapoaaGreatDoor
namespace Go.Proofs.YtmomlgkpdoapoaaGreatDoor
open Go.ChangeShapes Go.WideShapes Go.ChangeAt Go.RowKit

set_option maxRecDepth 100000 in
set_option maxHeartbeats 4000000 in
theorem csame_any (m n : CM) (w : World) (hm : m.In w) (hn : n.In w) (lm : m.c.Low) (ln : n.c.Low) :
    Calls Tryz.prog 69 #[m.val, n.val] w fun e w' => e = .returned (.bool (sameC m.c n.c)) ∧ Fresh w w' := by
  obtain ⟨⟨s0, s1, lc, lp, n4, n5, le⟩, ca, cc, pa, pc, ea, ec⟩ := m
  obtain ⟨⟨s0', s1', lc', lp', n4', n5', le'⟩, ca', cc', pa', pc', ea', ec'⟩ := n
  have HSC : Hid (sameC ⟨s0, s1, lc, lp, n4, n5, le⟩ ⟨s0', s1', lc', lp', n4', n5', le'⟩ = (decide (s0 = s0') && (decide (s1 = s1') && (decide (lc = lc') && (decide (lp = lp') && (decide (n4 = n4') && (decide (n5 = n5') && decide (le = le')))))))) := rfl
  have HC := Lib.hid hm.cmd
  have HC' := Lib.hid hn.cmd
  have HP := Lib.hid hm.ports
  have HP' := Lib.hid hn.ports
  have HE := Lib.hid hm.env
  have HE' := Lib.hid hn.env
  have HL : Hid (lc.length ≤ 1048576 ∧ lp.length ≤ 1048576 ∧ le.length ≤ 1048576) := ⟨lm.lc, lm.lp, lm.le⟩
  have HL' : Hid (lc'.length ≤ 1048576 ∧ lp'.length ≤ 1048576 ∧ le'.length ≤ 1048576) := ⟨ln.lc, ln.lp, ln.le⟩
  dsimp only [CM.val] at *
  clear hm hn lm ln
  generalize sameC ⟨s0, s1, lc, lp, n4, n5, le⟩ ⟨s0', s1', lc', lp', n4', n5', le'⟩ = R at *
  have HX := Lib.hid (two_boxes w (.cells #[.string s0, .string s1, .slice ca lc.length cc, .slice pa lp.length pc, .int .i64 n4, .int .i64 n5, .slice ea le.length ec] 94) (.cells #[.string s0', .string s1', .slice ca' lc'.length cc', .slice pa' lp'.length pc', .int .i64 n4', .int .i64 n5', .slice ea' le'.length ec'] 94))
  by_cases h0 : s0 = s0'
  case neg =>
    have HR : Hid (R = false) := by rw [Hid, HSC.out, decide_eq_false h0]; simp
    have e0 := tl_ne h0
    have HF := Lib.hid HX.out.2.2.1
    clear HX HSC
    go_enter Tryz.func69, Tryz.ntmps69
    go_wp2
    go_ret
    exact ⟨ret_bool HR.out.symm, HF.out⟩
  subst h0
  by_cases h1 : s1 = s1'
  case neg =>
    have HR : Hid (R = false) := by rw [Hid, HSC.out, decide_eq_false h1]; simp
    have e0 := tl_ne h1
    have HF := Lib.hid HX.out.2.2.1
    clear HX HSC
    go_enter Tryz.func69, Tryz.ntmps69
    go_wp2
    go_ret
    exact ⟨ret_bool HR.out.symm, HF.out⟩
  subst h1
  by_cases h4 : n4 = n4'
  case neg =>
    have HR : Hid (R = false) := by rw [Hid, HSC.out, decide_eq_false h4]; simp
    have e0 : (n4 == n4') = false := by rw [beq_eq_false_iff_ne]; exact h4
    have HF := Lib.hid HX.out.2.2.1
    clear HX HSC
    go_enter Tryz.func69, Tryz.ntmps69
    go_wp2
    go_ret
    exact ⟨ret_bool HR.out.symm, HF.out⟩
  subst h4
  by_cases h5 : n5 = n5'
  case neg =>
    have HR : Hid (R = false) := by rw [Hid, HSC.out, decide_eq_false h5]; simp
    have e0 : (n5 == n5') = false := by rw [beq_eq_false_iff_ne]; exact h5
    have HF := Lib.hid HX.out.2.2.1
    clear HX HSC
    go_enter Tryz.func69, Tryz.ntmps69
    go_wp2
    go_ret
    exact ⟨ret_bool HR.out.symm, HF.out⟩
  subst h5
  have HSC2 : Hid (R = (decide (lc = lc') && (decide (lp = lp') && decide (le = le')))) := by rw [Hid, HSC.out]; simp
  clear HSC
  have HT : Hid (∀ W, Fresh w W → Calls Tryz.prog 99 #[.slice ca lc.length cc, .slice ca' lc'.length cc'] W fun e w' => e = .returned (.bool (decide (lc = lc'))) ∧ Fresh W w') := fun W f => eqT_any lc lc' ca ca' cc cc' W (HC.out.move f) (HC'.out.move f) (by have := HL.out; omega) (by have := HL'.out; omega)
  have HQ : Hid (∀ W, Fresh w W → Calls Tryz.prog 100 #[.slice pa lp.length pc, .slice pa' lp'.length pc'] W fun e w' => e = .returned (.bool (decide (lp = lp'))) ∧ Fresh W w') := fun W f => eqP_any lp lp' pa pa' pc pc' W (HP.out.move f) (HP'.out.move f) (by have := HL.out; omega) (by have := HL'.out; omega)
  have HU : Hid (∀ W, Fresh w W → Calls Tryz.prog 101 #[.slice ea le.length ec, .slice ea' le'.length ec'] W fun e w' => e = .returned (.bool (decide (le = le'))) ∧ Fresh W w') := fun W f => eqE_any le le' ea ea' ec ec' W (HE.out.move f) (HE'.out.move f) (by have := HL.out; omega) (by have := HL'.out; omega)
  clear HC HC' HP HP' HE HE' HL HL'
  generalize decide (lc = lc') = d1 at *
  generalize decide (lp = lp') = d2 at *
  generalize decide (le = le') = d3 at *
  generalize lc.length = z1 at *
  generalize lp.length = z2 at *
  generalize le.length = z3 at *
  generalize lc'.length = z1' at *
  generalize lp'.length = z2' at *
  generalize le'.length = z3' at *
  go_enter Tryz.func69, Tryz.ntmps69
  go_wp2_with (fail)
  generalize (w.alloc (.cells #[.string s0, .string s1, .slice ca z1 cc, .slice pa z2 pc, .int .i64 n4, .int .i64 n5, .slice ea z3 ec] 94)).alloc (.cells #[.string s0, .string s1, .slice ca' z1' cc', .slice pa' z2' pc', .int .i64 n4, .int .i64 n5, .slice ea' z3' ec'] 94) = W0 at *
  obtain ⟨x1, x2, hx3, x4⟩ := HX.out
  have HX3 := Lib.hid hx3
  clear hx3 HX x4
  generalize w.heap.size = b at *
  have X1 := Lib.hid x1
  have X2 := Lib.hid x2
  clear x1 x2
  refine (HT.out _ HX3.out).mono ?_
  rintro e W1 ⟨rfl, hf⟩
  have HF1 := Lib.hid hf
  clear hf
  cases d1 with
  | false =>
    go_wp2
    go_ret
    exact ⟨ret_bool (by rw [HSC2.out]; rfl), HX3.out.trans HF1.out⟩
  | true =>
    obtain ⟨⟨c0, c1, c2, c3, c4, c5, c6⟩, _⟩ := Box7.cells (show Box7 94 W1 b s0 s1 (.slice ca z1 cc) (.slice pa z2 pc) n4 n5 (.slice ea z3 ec) from HF1.out.at X1.out)
    obtain ⟨⟨y0, y1, y2, y3, y4, y5, y6⟩, _⟩ := Box7.cells (show Box7 94 W1 (b + 1) s0 s1 (.slice ca' z1' cc') (.slice pa' z2' pc') n4 n5 (.slice ea' z3' ec') from HF1.out.at X2.out)
    clear c0 c1 c2 c4 c5 y0 y1 y2 y4 y5
    go_wp2_with (fail)
    refine (HQ.out _ (HX3.out.trans HF1.out)).mono ?_
    rintro e W2 ⟨rfl, hf⟩
    have HF2 := Lib.hid (HF1.out.trans hf)
    clear hf
    cases d2 with
    | false =>
      go_wp2
      go_ret
      exact ⟨ret_bool (by rw [HSC2.out]; rfl), HX3.out.trans HF2.out⟩
    | true =>
      clear c3 c6 y3 y6
      obtain ⟨⟨c0, c1, c2, c3, c4, c5, c6⟩, _⟩ := Box7.cells (show Box7 94 W2 b s0 s1 (.slice ca z1 cc) (.slice pa z2 pc) n4 n5 (.slice ea z3 ec) from HF2.out.at X1.out)
      obtain ⟨⟨y0, y1, y2, y3, y4, y5, y6⟩, _⟩ := Box7.cells (show Box7 94 W2 (b + 1) s0 s1 (.slice ca' z1' cc') (.slice pa' z2' pc') n4 n5 (.slice ea' z3' ec') from HF2.out.at X2.out)
      clear c0 c1 c2 c3 c4 c5 y0 y1 y2 y3 y4 y5
      go_wp2_with (fail)
      refine (HU.out _ (HX3.out.trans HF2.out)).mono ?_
      rintro e W3 ⟨rfl, hf⟩
      go_wp2
      go_ret
      exact ⟨ret_bool (by rw [HSC2.out]; rfl), (HX3.out.trans HF2.out).trans hf⟩
end Go.Proofs.YtmomlgkpdoapoaaGreatDoor
namespace Go.Proofs.YtmomlgkpdoapoaaGreatDoor
open Go.ChangeShapes Go.WideShapes Go.ChangeAt Go.RowKit

theorem sameL_len : ∀ (a b : List Ct), a.length ≠ b.length → sameL a b = false
  | [], [], h => absurd rfl h
  | [], _ :: _, _ => rfl
  | _ :: _, [], _ => rfl
  | x :: a, y :: b, h => by
    rw [sameL, sameL_len a b (fun e => h (by simp [e])), Bool.and_false]
theorem sameL_drop {a b : List CM} {k : Nat} (h : k < a.length) (h' : k < b.length) : sameL ((a.drop k).map (·.c)) ((b.drop k).map (·.c)) = (sameC a[k].c b[k].c && sameL ((a.drop (k + 1)).map (·.c)) ((b.drop (k + 1)).map (·.c))) := by
  rw [List.drop_eq_getElem_cons h, List.drop_eq_getElem_cons h', List.map_cons, List.map_cons, sameL]
set_option maxRecDepth 100000 in
set_option maxHeartbeats 4000000 in
theorem eqFunc_any (cs cs' : List CM) (a a' : Option Addr) (cap cap' : Nat) (w : World) (ha : RowAt w a (ccells cs)) (ha' : RowAt w a' (ccells cs')) (hi : ∀ m ∈ cs, m.In w) (hi' : ∀ m ∈ cs', m.In w) (hl : cs.length ≤ 1048576) (hl' : cs'.length ≤ 1048576) (lw : ∀ m ∈ cs, m.c.Low) (lw' : ∀ m ∈ cs', m.c.Low) :
    Calls Tryz.prog 68 #[.slice a cs.length cap, .slice a' cs'.length cap', .func (.func 69) #[] #[]] w fun e w' => e = .returned (.bool (sameL (cs.map (·.c)) (cs'.map (·.c)))) ∧ Fresh w w' := by
  have HROW := Lib.hid ha
  have HROW' := Lib.hid ha'
  have HINS := Lib.hid hi
  have HINS' := Lib.hid hi'
  have HLW := Lib.hid lw
  have HLW' := Lib.hid lw'
  clear ha ha' hi hi' lw lw'
  obtain ⟨R, hR⟩ : ∃ R, R = sameL (cs.map (·.c)) (cs'.map (·.c)) := ⟨_, rfl⟩
  rw [← hR]
  have HR0 := Lib.hid hR
  clear hR
  by_cases hlen : cs.length = cs'.length
  case neg =>
    have HR : Hid (R = false) := by rw [Hid, HR0.out, sameL_len _ _ (by simpa using hlen)]
    have e0 : ((cs.length : Int) == (cs'.length : Int)) = false := by rw [beq_eq_false_iff_ne]; omega
    go_enter Tryz.func68, Tryz.ntmps68
    go_wp2
    all_goals try (exfalso; omega)
    go_ret
    exact ⟨ret_bool HR.out.symm, Fresh.refl _⟩
  have HN2 : Hid (cs'.length = cs.length) := hlen.symm
  have hd2 := HN2.out
  rw [hd2]
  clear hd2 hlen hl'
  generalize hn : cs.length = n at *
  have HNN := Lib.hid hn
  clear hn
  go_enter Tryz.func68, Tryz.ntmps68
  go_wp2
  all_goals try (exfalso; omega)
  go_loopw [17] (fun a17 wr => ∃ (k : Nat), a17 = .int .i64 (k : Int) ∧ k ≤ n ∧ Hid (R = sameL ((cs.drop k).map (·.c)) ((cs'.drop k).map (·.c))) ∧ Hid (Fresh w wr)) (fun a17 _ => n - (intOf a17).toNat)
  case atStart => exact ⟨0, rfl, Nat.zero_le _, HR0.out, Fresh.refl _⟩
  case round =>
    obtain ⟨k, rfl, hk, HE, HF⟩ := hrel
    by_cases hltn : k < n
    · have hlt : k < cs.length := by rw [HNN.out]; exact hltn
      have hlt' : k < cs'.length := by rw [HN2.out]; exact hltn
      obtain ⟨g, o1, rfl, hc⟩ := crow_form (HROW.out.move HF.out) hlt
      obtain ⟨g', o1', rfl, hc'⟩ := crow_form (HROW'.out.move HF.out) hlt'
      obtain ⟨c0, c1, c2, c3, c4, c5, c6⟩ := hc k hlt
      obtain ⟨y0, y1, y2, y3, y4, y5, y6⟩ := hc' k hlt'
      have HST : Hid (R = (sameC cs[k].c cs'[k].c && sameL ((cs.drop (k + 1)).map (·.c)) ((cs'.drop (k + 1)).map (·.c)))) := HE.out.trans (sameL_drop hlt hlt')
      have HCALL : Hid (∀ W, Fresh wr W → Calls Tryz.prog 69 #[cs[k].val, cs'[k].val] W fun e w' => e = .returned (.bool (sameC cs[k].c cs'[k].c)) ∧ Fresh W w') := fun W f =>
        csame_any cs[k] cs'[k] W (((HINS.out _ (List.getElem_mem hlt)).move HF.out).move f) (((HINS'.out _ (List.getElem_mem hlt')).move HF.out).move f) (HLW.out _ (List.getElem_mem hlt)) (HLW'.out _ (List.getElem_mem hlt'))
      have lt1 : g' < wr.heap.size := World.block_lt_of_cell? wr _ y0
      clear hc hc'
      generalize sameC cs[k].c cs'[k].c = SC at *
      generalize cs[k] = m at *
      generalize cs'[k] = m' at *
      clear hlt hlt'
      obtain ⟨⟨s0, s1, lc, lp, n4, n5, le⟩, ca, cc, pa, pc, ea, ec⟩ := m
      obtain ⟨⟨s0', s1', lc', lp', n4', n5', le'⟩, ca', cc', pa', pc', ea', ec'⟩ := m'
      dsimp only [CM.val] at *
      generalize lc.length = z1 at *
      generalize lp.length = z2 at *
      generalize le.length = z3 at *
      generalize lc'.length = z1' at *
      generalize lp'.length = z2' at *
      generalize le'.length = z3' at *
      have i1 : (0 : Int) ≤ (k : Int) := by omega
      have i2 : (k : Int) < (n : Int) := by omega
      have HFA := Lib.hid (((Fresh.refl wr).alloc (.cells #[.string s0, .string s1, .slice ca z1 cc, .slice pa z2 pc, .int .i64 n4, .int .i64 n5, .slice ea z3 ec] 94)).alloc (.cells #[.string s0', .string s1', .slice ca' z1' cc', .slice pa' z2' pc', .int .i64 n4', .int .i64 n5', .slice ea' z3' ec'] 94))
      have HC2 := Lib.hid (HCALL.out _ HFA.out)
      clear HCALL
      cases SC with
      | false =>
        have HR : Hid (R = false) := by rw [Hid, HST.out]; rfl
        clear HST
        go_wp2_with (fail)
        all_goals try (exfalso; omega)
        refine HC2.out.mono ?_
        rintro e W1 ⟨rfl, hf⟩
        have HF2 := Lib.hid ((HF.out.trans HFA.out).trans hf)
        clear hf
        go_wp2
        all_goals try (exfalso; omega)
        go_ret
        exact ⟨ret_bool HR.out.symm, HF2.out⟩
      | true =>
        have HN : Hid (R = sameL ((cs.drop (k + 1)).map (·.c)) ((cs'.drop (k + 1)).map (·.c))) := by rw [Hid, HST.out]; rfl
        clear HST
        go_wp2_with (fail)
        all_goals try (exfalso; omega)
        refine HC2.out.mono ?_
        rintro e W1 ⟨rfl, hf⟩
        have HF2 := Lib.hid ((HF.out.trans HFA.out).trans hf)
        clear hf
        go_wp2
        all_goals try (exfalso; omega)
        go_roundw
        case rel => exact ⟨k + 1, by simp, by omega, HN.out, HF2.out⟩
        case measure => simp [intOf]; omega
    · obtain rfl : k = n := by omega
      have HR : Hid (R = true) := by rw [Hid, HE.out, List.drop_of_length_le (by rw [HNN.out]; exact Nat.le_refl _), List.drop_of_length_le (by rw [HN2.out]; exact Nat.le_refl _)]; rfl
      go_wp2
      all_goals try (exfalso; omega)
      go_ret
      exact ⟨ret_bool HR.out.symm, HF.out⟩
set_option maxRecDepth 100000 in
set_option maxHeartbeats 4000000 in
theorem same_any (p q : PM) (w : World) (h : p.At w) (h2 : q.At w) (hl : p.Low) (hl2 : q.Low) :
    Calls Tryz.prog 38 #[p.val, q.val] w fun e w' => e = .returned (.bool (sameP p.pd q.pd)) ∧ Fresh w w' := by
  obtain ⟨name, ns, rs, gr, ho, a, cap, cs⟩ := p
  obtain ⟨name', ns', rs', gr', ho', a', cap', cs'⟩ := q
  have HP : Hid (sameP (PM.mk name ns rs gr ho a cap cs).pd (PM.mk name' ns' rs' gr' ho' a' cap' cs').pd = (decide (name = name') && (decide (ns = ns') && (decide (rs = rs') && (decide (gr = gr') && (decide (ho = ho') && sameL (cs.map (·.c)) (cs'.map (·.c)))))))) := rfl
  have HX := Lib.hid (two_boxes w (.cells #[.string name, .string ns, .int .i64 rs, .int .i64 gr, .bool ho, .slice a cs.length cap] 41) (.cells #[.string name', .string ns', .int .i64 rs', .int .i64 gr', .bool ho', .slice a' cs'.length cap'] 41))
  have HEF := Lib.hid (eqFunc_any cs cs' a a' cap cap' _ (h.row.move HX.out.2.2.1) (h2.row.move HX.out.2.2.1) (fun m hm => (h.ins m hm).move HX.out.2.2.1) (fun m hm => (h2.ins m hm).move HX.out.2.2.1) hl.len hl2.len hl.cs hl2.cs)
  have HF := Lib.hid HX.out.2.2.1
  clear HX
  dsimp only [PM.val] at *
  clear h h2 hl hl2
  generalize sameP (PM.mk name ns rs gr ho a cap cs).pd (PM.mk name' ns' rs' gr' ho' a' cap' cs').pd = R at *
  generalize sameL (cs.map (·.c)) (cs'.map (·.c)) = SL at *
  generalize cs.length = n at *
  generalize cs'.length = n' at *
  by_cases hname : name = name'
  case neg =>
    have HR : Hid (R = false) := by rw [Hid, HP.out, decide_eq_false hname]; simp
    have e0 := tl_ne hname
    clear HEF HP
    go_enter Tryz.func38, Tryz.ntmps38
    go_wp2
    go_ret
    exact ⟨ret_bool HR.out.symm, HF.out⟩
  subst hname
  by_cases hns : ns = ns'
  case neg =>
    have HR : Hid (R = false) := by rw [Hid, HP.out, decide_eq_false hns]; simp
    have e0 := tl_ne hns
    clear HEF HP
    go_enter Tryz.func38, Tryz.ntmps38
    go_wp2
    go_ret
    exact ⟨ret_bool HR.out.symm, HF.out⟩
  subst hns
  by_cases hrs : rs = rs'
  case neg =>
    have HR : Hid (R = false) := by rw [Hid, HP.out, decide_eq_false hrs]; simp
    have e0 : (rs == rs') = false := by rw [beq_eq_false_iff_ne]; exact hrs
    clear HEF HP
    go_enter Tryz.func38, Tryz.ntmps38
    go_wp2
    go_ret
    exact ⟨ret_bool HR.out.symm, HF.out⟩
  subst hrs
  by_cases hgr : gr = gr'
  case neg =>
    have HR : Hid (R = false) := by rw [Hid, HP.out, decide_eq_false hgr]; simp
    have e0 : (gr == gr') = false := by rw [beq_eq_false_iff_ne]; exact hgr
    clear HEF HP
    go_enter Tryz.func38, Tryz.ntmps38
    go_wp2
    go_ret
    exact ⟨ret_bool HR.out.symm, HF.out⟩
  subst hgr
  by_cases hho : ho = ho'
  case neg =>
    have HR : Hid (R = false) := by rw [Hid, HP.out, decide_eq_false hho]; simp
    have e0 : (ho == ho') = false := by rw [beq_eq_false_iff_ne]; exact hho
    clear HEF HP
    go_enter Tryz.func38, Tryz.ntmps38
    go_wp2
    go_ret
    exact ⟨ret_bool HR.out.symm, HF.out⟩
  subst hho
  have HR : Hid (R = SL) := by rw [Hid, HP.out]; simp
  clear HP
  go_enter Tryz.func38, Tryz.ntmps38
  go_wp2_with (fail)
  refine HEF.out.mono ?_
  rintro e W1 ⟨rfl, hf⟩
  have hf := Lib.hid (HF.out.trans hf)
  go_wp2
  go_ret
  exact ⟨ret_bool HR.out.symm, hf.out⟩
end Go.Proofs.YtmomlgkpdoapoaaGreatDoor
