/-
  Are two pods alike, by the document: a round behind its two boxes (printed by a script).
  Are two pods alike, by the document?
  bosunlaw14.SpecDefaults, from where the pod is kept on (printed by a script).
-/
import Derived.Test.YtfhhmajkacjbgaaDoorCat09
import Derived.RegionTactic
import Derived.Deep.RegionHeld3
import Derived.Deep.DrawnRows
import Derived.Deep.Cut
import Derived.Test.YtfhhmajkacjbgaaDoorCat04
namespace Go.Proofs.YtfhhmajkacjbgaaDoor
open Go.ChangeShapes Go.WideShapes Go.ChangeAt Go.RowKit
attribute [local go_sem ↓] Go.wp_at_zero Go.wp_at_succ

/-- Does code begin with this region? -/
def startsB (n : Nat) : Code → Bool
  | .region k _ _ => k == n
  | .seq a _ => startsB n a
  | _ => false
/-- The code from a region on, to the end of its sequence. -/
def codeAt (n : Nat) : Code → Option Code
  | .seq a b => if startsB n a = true then some (.seq a b) else (match codeAt n a with | some x => some x | none => codeAt n b)
  | .cond _ a b => (match codeAt n a with | some x => some x | none => codeAt n b)
  | .block _ a => codeAt n a
  | .loop a => codeAt n a
  | _ => none
theorem tl_yes {x y : ByteArray} (h : x = y) : (x.toList == y.toList) = true := by subst h; simp
theorem rows_snoc {α : Type} {l m : List α} {j : Nat} (h : l[j]? = m[j]?) (k : ∀ i, i < j → l[i]? = m[i]?) : ∀ i, i < j + 1 → l[i]? = m[i]? := fun i hi => by
  rcases Nat.lt_or_ge i j with h3 | h3
  · exact k i h3
  · obtain rfl : i = j := by omega
    exact h
theorem rows_all {α : Type} {l m : List α} (h : l.length = m.length) (k : ∀ i, i < l.length → l[i]? = m[i]?) : l = m := by
  apply List.ext_getElem?
  intro i
  rcases Nat.lt_or_ge i l.length with h3 | h3
  · exact k i h3
  · rw [List.getElem?_eq_none h3, List.getElem?_eq_none (by omega)]
set_option maxRecDepth 100000 in
set_option maxHeartbeats 40000000 in
theorem same_tail (cd : Code) (hcd : Tryd.f11.body.bind (codeAt 7) = some cd) (Q : Exit → Act → World → Prop) (R : Bool) (w W1 : World) (zx zy : Nat) (s0 s1 s0' s1' : ByteArray) (lc lc' : List ByteArray) (lp lp' : List (Int × Int)) (le le' : List (ByteArray × ByteArray)) (n4 n5 n4' n5' : Int) (ca pa ea ca' pa' ea' : Option Addr) (cc pc ec cc' pc' ec' : Nat)
    (t0 t1 t2 t3 t4 t5 t8 t9 t10 t11 t12 t13 t14 t15 t16 t17 t18 t19 t20 t21 t22 t23 t24 t25 t26 t27 t28 t29 t30 t31 t32 t33 t34 t35 t36 t37 t38 t39 t40 t41 t42 t43 t44 t45 t46 t47 t48 t49 t50 t51 t52 t53 t54 t55 t56 t57 t58 t59 t60 t61 t62 t63 t64 t65 t66 t67 t68 t69 t70 t71 t72 t73 t74 t75 t76 t77 t78 t79 t80 t81 t82 t83 t84 t85 t86 t87 t88 t89 t90 t91 t92 t93 t94 t95 t96 t97 t98 t99 t100 t101 t102 t103 t104 t105 t106 t107 t108 t109 t110 t111 t112 t113 t114 t115 t116 t117 t118 t119 t120 t121 t122 t123 t124 t125 t126 t127 t128 t129 t130 t131 t132 t133 t134 t135 t136 t137 t138 t139 t140 t141 t142 t143 t144 t145 t146 t147 t148 t149 t150 t151 t152 t153 t154 t155 t156 : Value)
    (HBX : Hid (∀ W, Fresh W1 W → Box7 60 W zx s0 s1 (.slice ca lc.length cc) (.slice pa lp.length pc) n4 n5 (.slice ea le.length ec))) (HBY : Hid (∀ W, Fresh W1 W → Box7 60 W zy s0' s1' (.slice ca' lc'.length cc') (.slice pa' lp'.length pc') n4' n5' (.slice ea' le'.length ec')))
    (HRC : Hid (RowAt W1 ca (tcells lc))) (HRC' : Hid (RowAt W1 ca' (tcells lc'))) (HRP : Hid (RowAt W1 pa (pcells lp))) (HRP' : Hid (RowAt W1 pa' (pcells lp'))) (HRE : Hid (RowAt W1 ea (ecells le))) (HRE' : Hid (RowAt W1 ea' (ecells le')))
    (HLN : Hid (lc.length ≤ 1048576 ∧ lp.length ≤ 1048576 ∧ le.length ≤ 1048576 ∧ lc'.length ≤ 1048576 ∧ lp'.length ≤ 1048576 ∧ le'.length ≤ 1048576))
    (HF : Hid (Fresh w W1))
    (HNOT : Hid (sameC ⟨s0, s1, lc, lp, n4, n5, le⟩ ⟨s0', s1', lc', lp', n4', n5', le'⟩ = false → R = false))
    (HRET : Hid (∀ a W, bodyPost Tryd.prog Tryd.f11 (fun e w' => e = .returned (.bool R) ∧ Fresh w w') Exit.ret a W → Q Exit.ret a W))
    (HNXT : Hid (sameC ⟨s0, s1, lc, lp, n4, n5, le⟩ ⟨s0', s1', lc', lp', n4', n5', le'⟩ = true → ∀ W, Fresh W1 W → ∀ y4 y8 y9 y69 y70 y71 y72 y73 y74 y75 y76 y77 y78 y79 y80 y81 y82 y83 y84 y85 y86 y87 y88 y89 y90 y91 y92 y93 y94 y95 y96 y97 y98 y99 y100 y101 y102 y103 y104 y105 y106 y107 y108 y109 y110 y111 y112 y113 y114 y115 y116 y117 y118 y119 y120 y121 y122 y123 y124 y125 y126 y127 y128 y129 y130 y131 y132 y133 y134 y135 y136 y137 y138 y139 y140 y141 y142 y143 y144 y145 y146 y147 y148 y149 y150 y151 y152 y153 y154 y155 y156 : Value, Q Exit.normal { tmps := #[t0, t1, t2, t3, y4, t5, .pointer (some ⟨zx, 0, none⟩), .pointer (some ⟨zy, 0, none⟩), y8, y9, t10, t11, t12, t13, t14, t15, t16, t17, t18, t19, t20, t21, t22, t23, t24, t25, t26, t27, t28, t29, t30, t31, t32, t33, t34, t35, t36, t37, t38, t39, t40, t41, t42, t43, t44, t45, t46, t47, t48, t49, t50, t51, t52, t53, t54, t55, t56, t57, t58, t59, t60, t61, t62, t63, t64, t65, t66, t67, t68, y69, y70, y71, y72, y73, y74, y75, y76, y77, y78, y79, y80, y81, y82, y83, y84, y85, y86, y87, y88, y89, y90, y91, y92, y93, y94, y95, y96, y97, y98, y99, y100, y101, y102, y103, y104, y105, y106, y107, y108, y109, y110, y111, y112, y113, y114, y115, y116, y117, y118, y119, y120, y121, y122, y123, y124, y125, y126, y127, y128, y129, y130, y131, y132, y133, y134, y135, y136, y137, y138, y139, y140, y141, y142, y143, y144, y145, y146, y147, y148, y149, y150, y151, y152, y153, y154, y155, y156], defers := [] } W)) :
    Code.wp Tryd.prog cd Q { tmps := #[t0, t1, t2, t3, t4, t5, .pointer (some ⟨zx, 0, none⟩), .pointer (some ⟨zy, 0, none⟩), t8, t9, t10, t11, t12, t13, t14, t15, t16, t17, t18, t19, t20, t21, t22, t23, t24, t25, t26, t27, t28, t29, t30, t31, t32, t33, t34, t35, t36, t37, t38, t39, t40, t41, t42, t43, t44, t45, t46, t47, t48, t49, t50, t51, t52, t53, t54, t55, t56, t57, t58, t59, t60, t61, t62, t63, t64, t65, t66, t67, t68, t69, t70, t71, t72, t73, t74, t75, t76, t77, t78, t79, t80, t81, t82, t83, t84, t85, t86, t87, t88, t89, t90, t91, t92, t93, t94, t95, t96, t97, t98, t99, t100, t101, t102, t103, t104, t105, t106, t107, t108, t109, t110, t111, t112, t113, t114, t115, t116, t117, t118, t119, t120, t121, t122, t123, t124, t125, t126, t127, t128, t129, t130, t131, t132, t133, t134, t135, t136, t137, t138, t139, t140, t141, t142, t143, t144, t145, t146, t147, t148, t149, t150, t151, t152, t153, t154, t155, t156], defers := [] } W1 := by
  have HSC : Hid (sameC ⟨s0, s1, lc, lp, n4, n5, le⟩ ⟨s0', s1', lc', lp', n4', n5', le'⟩ = (decide (s0 = s0') && (decide (s1 = s1') && (decide (lc = lc') && (decide (lp = lp') && (decide (n4 = n4') && (decide (n5 = n5') && decide (le = le')))))))) := rfl
  generalize sameC ⟨s0, s1, lc, lp, n4, n5, le⟩ ⟨s0', s1', lc', lp', n4', n5', le'⟩ = SC at *
  obtain rfl : cd = _ := Option.some.inj (hcd.symm.trans (show Tryd.f11.body.bind (codeAt 7) = some _ from rfl))
  clear hcd
  obtain ⟨⟨c0, c1, c2, c3, c4, c5, c6⟩, _⟩ := (HBX.out W1 (Fresh.refl _)).cells
  obtain ⟨⟨d0, d1, d2, d3, d4, d5, d6⟩, _⟩ := (HBY.out W1 (Fresh.refl _)).cells
  by_cases h0 : s0 = s0'
  case neg =>
    have HR : Hid (R = false) := HNOT.out (by rw [HSC.out, decide_eq_false h0]; simp)
    have e0 := tl_ne h0
    have HG := Lib.hid (fun (a : Act) (W : World) => HRET.out a W)
    clear HNXT HNOT HSC HRC HRC' HRP HRP' HRE HRE' HBX HBY
    go_wp2
    all_goals try (exfalso; omega)
    refine HRET.out _ _ ?_
    go_ret
    exact ⟨ret_bool HR.out.symm, HF.out⟩
  have e0 := tl_yes h0
  by_cases h1 : s1 = s1'
  case neg =>
    have HR : Hid (R = false) := HNOT.out (by rw [HSC.out, decide_eq_false h1]; simp)
    have e1 := tl_ne h1
    have HG := Lib.hid (fun (a : Act) (W : World) => HRET.out a W)
    clear HNXT HNOT HSC HRC HRC' HRP HRP' HRE HRE' HBX HBY
    go_wp2
    all_goals try (exfalso; omega)
    refine HRET.out _ _ ?_
    go_ret
    exact ⟨ret_bool HR.out.symm, HF.out⟩
  have e1 := tl_yes h1
  by_cases h4 : n4 = n4'
  case neg =>
    have HR : Hid (R = false) := HNOT.out (by rw [HSC.out, decide_eq_false h4]; simp)
    have e4 : (n4 == n4') = false := by rw [beq_eq_false_iff_ne]; exact h4
    have HG := Lib.hid (fun (a : Act) (W : World) => HRET.out a W)
    clear HNXT HNOT HSC HRC HRC' HRP HRP' HRE HRE' HBX HBY
    go_wp2
    all_goals try (exfalso; omega)
    refine HRET.out _ _ ?_
    go_ret
    exact ⟨ret_bool HR.out.symm, HF.out⟩
  have e4 : (n4 == n4') = true := by rw [h4]; simp
  by_cases h5 : n5 = n5'
  case neg =>
    have HR : Hid (R = false) := HNOT.out (by rw [HSC.out, decide_eq_false h5]; simp)
    have e5 : (n5 == n5') = false := by rw [beq_eq_false_iff_ne]; exact h5
    have HG := Lib.hid (fun (a : Act) (W : World) => HRET.out a W)
    clear HNXT HNOT HSC HRC HRC' HRP HRP' HRE HRE' HBX HBY
    go_wp2
    all_goals try (exfalso; omega)
    refine HRET.out _ _ ?_
    go_ret
    exact ⟨ret_bool HR.out.symm, HF.out⟩
  have e5 : (n5 == n5') = true := by rw [h5]; simp
  have HSC2 : Hid (SC = (decide (lc = lc') && (decide (lp = lp') && decide (le = le')))) := by
    rw [Hid, HSC.out, decide_eq_true h0, decide_eq_true h1, decide_eq_true h4, decide_eq_true h5]; simp
  have HTX := Lib.hid (rtexts_any lc lc' ca ca' cc cc' W1 HRC.out HRC'.out (by have := HLN.out; omega) (by have := HLN.out; omega))
  clear h0 h1 HSC
  have H4 := Lib.hid h4
  have H5 := Lib.hid h5
  clear h4 h5
  go_wp2_with (fail)
  all_goals try (exfalso; omega)
  refine HTX.out.mono ?_
  rintro e W2 ⟨rfl, hf⟩
  have HF2 := Lib.hid hf
  clear hf c0 c1 c2 c3 c4 c5 c6 d0 d1 d2 d3 d4 d5 d6 HTX
  obtain ⟨⟨c0, c1, c2, c3, c4, c5, c6⟩, _⟩ := (HBX.out W2 HF2.out).cells
  obtain ⟨⟨d0, d1, d2, d3, d4, d5, d6⟩, _⟩ := (HBY.out W2 HF2.out).cells
  clear c0 c1 c2 c4 c5 d0 d1 d2 d4 d5
  by_cases hcm : lc = lc'
  case neg =>
    have HR : Hid (R = false) := HNOT.out (by rw [HSC2.out, decide_eq_false hcm]; simp)
    rw [decide_eq_false hcm]
    clear HNXT HNOT HSC2 HRC HRC' HRP HRP' HRE HRE' HBX HBY hcm
    go_wp2
    all_goals try (exfalso; omega)
    refine HRET.out _ _ ?_
    go_ret
    exact ⟨ret_bool HR.out.symm, HF.out.trans HF2.out⟩
  rw [decide_eq_true hcm]
  have HSC3 : Hid (SC = (decide (lp = lp') && decide (le = le'))) := by rw [Hid, HSC2.out, decide_eq_true hcm, Bool.true_and]
  clear HSC2 hcm HRC HRC'
  by_cases hpl : lp.length = lp'.length
  case neg =>
    have HR : Hid (R = false) := HNOT.out (by rw [HSC3.out, decide_eq_false (fun e => hpl (by rw [e]))]; simp)
    have e6 : ((lp.length : Int) == (lp'.length : Int)) = false := by rw [beq_eq_false_iff_ne]; omega
    clear HNXT HNOT HSC3 HRP HRP' HRE HRE' HBX HBY
    go_wp2
    all_goals try (exfalso; omega)
    refine HRET.out _ _ ?_
    go_ret
    exact ⟨ret_bool HR.out.symm, HF.out.trans HF2.out⟩
  have HPL := Lib.hid hpl
  rw [← hpl] at d3
  clear hpl
  by_cases hel : le.length = le'.length
  case neg =>
    have HR : Hid (R = false) := HNOT.out (by rw [HSC3.out, decide_eq_false (fun e : le = le' => hel (by rw [e]))]; simp)
    have e7 : ((le.length : Int) == (le'.length : Int)) = false := by rw [beq_eq_false_iff_ne]; omega
    clear HNXT HNOT HSC3 HRP HRP' HRE HRE' HBX HBY
    go_wp2
    all_goals try (exfalso; omega)
    refine HRET.out _ _ ?_
    go_ret
    exact ⟨ret_bool HR.out.symm, HF.out.trans HF2.out⟩
  have HEL := Lib.hid hel
  rw [← hel] at d6
  clear hel
  go_wp2
  all_goals try (exfalso; omega)
  clear c3 c6 d3 d6
  have hl2 := HLN.out.2.1
  have hl3 := HLN.out.2.2.1
  go_loopw [8] (fun a8 wq => ∃ (j : Nat), a8 = .int .i64 (j : Int) ∧ j ≤ lp.length ∧ Hid (∀ i, i < j → lp[i]? = lp'[i]?) ∧ Hid (Fresh W2 wq)) (fun a8 _ => lp.length - (intOf a8).toNat)
  case atStart => exact ⟨0, rfl, Nat.zero_le _, fun _ h => absurd h (Nat.not_lt_zero _), Fresh.refl _⟩
  case round =>
    obtain ⟨j, rfl, hj, HEQ, HFq⟩ := hrel
    have HF3 := Lib.hid (HF2.out.trans HFq.out)
    obtain ⟨⟨_, _, _, c3, _, _, c6⟩, _⟩ := (HBX.out _ HF3.out).cells
    obtain ⟨⟨_, _, _, d3, _, _, d6⟩, _⟩ := (HBY.out _ HF3.out).cells
    by_cases hlt : j < lp.length
    · have hlt' : j < lp'.length := by rw [← HPL.out]; exact hlt
      obtain ⟨g2, o2, e2, hc2⟩ := prow_form (HRP.out.move HF3.out) hlt
      obtain ⟨g3, o3, e3, hc3⟩ := prow_form (HRP'.out.move HF3.out) hlt'
      obtain ⟨x1, x2⟩ := hc2 j hlt
      obtain ⟨x3, x4⟩ := hc3 j hlt'
      rw [e2] at c3
      rw [e3] at d3
      clear hc2 hc3 e2 e3 c6 d6
      have i4 : (0 : Int) ≤ (j : Int) := by omega
      have i5 : (j : Int) < (lp.length : Int) := by omega
      have i6 : (j : Int) < (lp'.length : Int) := by omega
      have HGE : Hid (lp[j]? = some lp[j] ∧ lp'[j]? = some lp'[j]) := ⟨List.getElem?_eq_getElem hlt, List.getElem?_eq_getElem hlt'⟩
      generalize lp[j] = u at *
      generalize lp'[j] = v at *
      obtain ⟨un, up⟩ := u
      obtain ⟨vn, vp⟩ := v
      dsimp only at x1 x2 x3 x4
      by_cases hn1 : un = vn
      case neg =>
        have HR : Hid (R = false) := HNOT.out (by
          rw [HSC3.out, decide_eq_false (fun e : lp = lp' => hn1 (by
            have := HGE.out
            rw [e] at this
            have := this.1.symm.trans this.2
            simp only [Option.some.injEq, Prod.mk.injEq] at this
            exact this.1))]; simp)
        have e8 : (un == vn) = false := by rw [beq_eq_false_iff_ne]; exact hn1
        clear HNXT HNOT HSC3 HGE HEQ
        go_wp2_with (fail)
        go_quiet (fail)
        go_wp2
        all_goals try (exfalso; omega)
        refine HRET.out _ _ ?_
        go_ret
        exact ⟨ret_bool HR.out.symm, (HF.out.trans HF3.out).trans (fresh_drewN _ _)⟩
      by_cases hp1 : up = vp
      case neg =>
        have HR : Hid (R = false) := HNOT.out (by
          rw [HSC3.out, decide_eq_false (fun e : lp = lp' => hp1 (by
            have := HGE.out
            rw [e] at this
            have := this.1.symm.trans this.2
            simp only [Option.some.injEq, Prod.mk.injEq] at this
            exact this.2))]; simp)
        have e8 : (un == vn) = true := by rw [hn1]; simp
        have e9 : (up == vp) = false := by rw [beq_eq_false_iff_ne]; exact hp1
        clear HNXT HNOT HSC3 HGE HEQ hn1
        go_wp2_with (fail)
        go_quiet (fail)
        go_wp2
        all_goals try (exfalso; omega)
        refine HRET.out _ _ ?_
        go_ret
        exact ⟨ret_bool HR.out.symm, (HF.out.trans HF3.out).trans (fresh_drewN _ _)⟩
      have HY := Lib.hid (rows_snoc (HGE.out.1.trans ((by rw [hn1, hp1] : some (un, up) = some (vn, vp)).trans HGE.out.2.symm)) HEQ.out)
      have e8 : (un == vn) = true := by rw [hn1]; simp
      have e9 : (up == vp) = true := by rw [hp1]; simp
      clear HGE HEQ hn1 hp1
      go_wp2_with (fail)
      go_quiet (fail)
      go_wp2
      all_goals try (exfalso; omega)
      go_roundw
      case rel => exact ⟨j + 1, by simp, by omega, HY.out, HFq.out.trans (fresh_drewN _ _)⟩
      case measure => simp [intOf]; omega
    · obtain rfl : j = lp.length := by omega
      have HSC4 : Hid (SC = decide (le = le')) := by rw [Hid, HSC3.out, decide_eq_true (rows_all HPL.out HEQ.out), Bool.true_and]
      clear HEQ HSC3
      go_wp2
      all_goals try (exfalso; omega)
      clear c3 c6 d3 d6 HRP HRP'
      obtain ⟨wo, hwo⟩ : ∃ wo, wo = wr := ⟨_, rfl⟩
      subst hwo
      go_loopw [9] (fun a9 wq => ∃ (j : Nat), a9 = .int .i64 (j : Int) ∧ j ≤ le.length ∧ Hid (∀ i, i < j → le[i]? = le'[i]?) ∧ Hid (Fresh wo wq)) (fun a9 _ => le.length - (intOf a9).toNat)
      case atStart => exact ⟨0, rfl, Nat.zero_le _, fun _ h => absurd h (Nat.not_lt_zero _), Fresh.refl _⟩
      case round =>
        obtain ⟨j, rfl, hj, HEQ, HFq⟩ := hrel
        have HF4 := Lib.hid (HF3.out.trans HFq.out)
        obtain ⟨⟨_, _, _, c3, _, _, c6⟩, _⟩ := (HBX.out _ HF4.out).cells
        obtain ⟨⟨_, _, _, d3, _, _, d6⟩, _⟩ := (HBY.out _ HF4.out).cells
        clear c3 d3
        by_cases hlt : j < le.length
        · have hlt' : j < le'.length := by rw [← HEL.out]; exact hlt
          obtain ⟨g2, o2, e2, hc2⟩ := erow_form (HRE.out.move HF4.out) hlt
          obtain ⟨g3, o3, e3, hc3⟩ := erow_form (HRE'.out.move HF4.out) hlt'
          obtain ⟨x1, x2⟩ := hc2 j hlt
          obtain ⟨x3, x4⟩ := hc3 j hlt'
          rw [e2] at c6
          rw [e3] at d6
          clear hc2 hc3 e2 e3
          have i4 : (0 : Int) ≤ (j : Int) := by omega
          have i5 : (j : Int) < (le.length : Int) := by omega
          have i6 : (j : Int) < (le'.length : Int) := by omega
          have HGE : Hid (le[j]? = some le[j] ∧ le'[j]? = some le'[j]) := ⟨List.getElem?_eq_getElem hlt, List.getElem?_eq_getElem hlt'⟩
          generalize le[j] = u at *
          generalize le'[j] = v at *
          obtain ⟨un, up⟩ := u
          obtain ⟨vn, vp⟩ := v
          dsimp only at x1 x2 x3 x4
          by_cases hn1 : un = vn
          case neg =>
            have HR : Hid (R = false) := HNOT.out (by
              rw [HSC4.out, decide_eq_false_iff_not]
              intro e
              have := HGE.out
              rw [e] at this
              have := this.1.symm.trans this.2
              simp only [Option.some.injEq, Prod.mk.injEq] at this
              exact hn1 this.1)
            have e8 := tl_ne hn1
            clear HNXT HNOT HSC4 HGE HEQ
            go_wp2_with (fail)
            go_quiet (fail)
            go_wp2
            all_goals try (exfalso; omega)
            refine HRET.out _ _ ?_
            go_ret
            exact ⟨ret_bool HR.out.symm, (HF.out.trans HF4.out).trans (fresh_drewN _ _)⟩
          by_cases hp1 : up = vp
          case neg =>
            have HR : Hid (R = false) := HNOT.out (by
              rw [HSC4.out, decide_eq_false_iff_not]
              intro e
              have := HGE.out
              rw [e] at this
              have := this.1.symm.trans this.2
              simp only [Option.some.injEq, Prod.mk.injEq] at this
              exact hp1 this.2)
            have e8 := tl_yes hn1
            have e9 := tl_ne hp1
            clear HNXT HNOT HSC4 HGE HEQ hn1
            go_wp2_with (fail)
            go_quiet (fail)
            go_wp2
            all_goals try (exfalso; omega)
            refine HRET.out _ _ ?_
            go_ret
            exact ⟨ret_bool HR.out.symm, (HF.out.trans HF4.out).trans (fresh_drewN _ _)⟩
          have HY := Lib.hid (rows_snoc (HGE.out.1.trans ((by rw [hn1, hp1] : some (un, up) = some (vn, vp)).trans HGE.out.2.symm)) HEQ.out)
          have e8 := tl_yes hn1
          have e9 := tl_yes hp1
          clear HGE HEQ hn1 hp1
          go_wp2_with (fail)
          go_quiet (fail)
          go_wp2
          all_goals try (exfalso; omega)
          go_roundw
          case rel => exact ⟨j + 1, by simp, by omega, HY.out, HFq.out.trans (fresh_drewN _ _)⟩
          case measure => simp [intOf]; omega
        · obtain rfl : j = le.length := by omega
          have HSC5 : Hid (SC = true) := by rw [Hid, HSC4.out, decide_eq_true_eq]; exact rows_all HEL.out HEQ.out
          have HN2 := Lib.hid (HNXT.out HSC5.out _ HF4.out)
          clear HEQ HSC4 HNXT HNOT
          go_wp2
          all_goals try (exfalso; omega)
          exact HN2.out _ _ _ _ _ _ _ _ _ _ _ _ _ _ _ _ _ _ _ _ _ _ _ _ _ _ _ _ _ _ _ _ _ _ _ _ _ _ _ _ _ _ _ _ _ _ _ _ _ _ _ _ _ _ _ _ _ _ _ _ _ _ _ _ _ _ _ _ _ _ _ _ _ _ _ _ _ _ _ _ _ _ _ _ _ _ _ _ _ _ _
end Go.Proofs.YtfhhmajkacjbgaaDoor
namespace Go.Proofs.YtfhhmajkacjbgaaDoor
open Go.ChangeShapes Go.WideShapes Go.ChangeAt Go.RowKit
attribute [local go_sem ↓] Go.wp_at_zero Go.wp_at_succ

theorem two_new (w : World) (o p : Obj) : (((w.alloc o).alloc p).drew).heap[w.heap.size]? = some o ∧ (((w.alloc o).alloc p).drew).heap[w.heap.size + 1]? = some p :=
  ⟨at_alloc (at_new w o), by have := at_new (w.alloc o) p; rw [World.size_alloc] at this; exact this⟩
set_option maxRecDepth 100000 in
set_option maxHeartbeats 40000000 in
theorem rsame_any (p q : PM) (w : World) (h : p.At w) (h2 : q.At w) (hl : p.Low) (hl2 : q.Low) :
    Calls Tryd.prog 11 #[p.val, q.val] w fun e w' => e = .returned (.bool (sameP p.pd q.pd)) ∧ Fresh w w' := by
  obtain ⟨name, ns, rs, gr, ho, a, cap, cs⟩ := p
  obtain ⟨name', ns', rs', gr', ho', a', cap', cs'⟩ := q
  have HROW := Lib.hid h.row
  have HINS := Lib.hid h.ins
  have HROW' := Lib.hid h2.row
  have HINS' := Lib.hid h2.ins
  have d1 : cs.length ≤ 1048576 := hl.len
  have d2 : cs'.length ≤ 1048576 := hl2.len
  have HLW := Lib.hid hl.cs
  have HLW' := Lib.hid hl2.cs
  have HP : Hid (sameP (PM.mk name ns rs gr ho a cap cs).pd (PM.mk name' ns' rs' gr' ho' a' cap' cs').pd = (decide (name = name') && (decide (ns = ns') && (decide (rs = rs') && (decide (gr = gr') && (decide (ho = ho') && sameL (cs.map (·.c)) (cs'.map (·.c)))))))) := rfl
  dsimp only [PM.val] at *
  clear h h2 hl hl2
  generalize sameP (PM.mk name ns rs gr ho a cap cs).pd (PM.mk name' ns' rs' gr' ho' a' cap' cs').pd = R at *
  have HF0 := Lib.hid (((Fresh.refl w).alloc (.cells #[.string name, .string ns, .int .i64 rs, .int .i64 gr, .bool ho, .slice a cs.length cap] 30)).alloc (.cells #[.string name', .string ns', .int .i64 rs', .int .i64 gr', .bool ho', .slice a' cs'.length cap'] 30))
  have HA1 : Hid (((w.alloc (.cells #[.string name, .string ns, .int .i64 rs, .int .i64 gr, .bool ho, .slice a cs.length cap] 30)).alloc (.cells #[.string name', .string ns', .int .i64 rs', .int .i64 gr', .bool ho', .slice a' cs'.length cap'] 30)).heap[w.heap.size]? = some (.cells #[.string name, .string ns, .int .i64 rs, .int .i64 gr, .bool ho, .slice a cs.length cap] 30)) := at_alloc (at_new _ _)
  have HA2 : Hid (((w.alloc (.cells #[.string name, .string ns, .int .i64 rs, .int .i64 gr, .bool ho, .slice a cs.length cap] 30)).alloc (.cells #[.string name', .string ns', .int .i64 rs', .int .i64 gr', .bool ho', .slice a' cs'.length cap'] 30)).heap[w.heap.size + 1]? = some (.cells #[.string name', .string ns', .int .i64 rs', .int .i64 gr', .bool ho', .slice a' cs'.length cap'] 30)) := by
    have := at_new (w.alloc (.cells #[.string name, .string ns, .int .i64 rs, .int .i64 gr, .bool ho, .slice a cs.length cap] 30)) (.cells #[.string name', .string ns', .int .i64 rs', .int .i64 gr', .bool ho', .slice a' cs'.length cap'] 30)
    rw [World.size_alloc] at this
    exact this
  by_cases hname : name = name'
  case neg =>
    have HR : Hid (R = false) := by rw [Hid, HP.out, decide_eq_false hname]; simp
    have e0 := tl_ne hname
    go_enter Tryd.func11, Tryd.ntmps11
    go_wp2
    all_goals try (exfalso; omega)
    go_ret
    exact ⟨ret_bool HR.out.symm, HF0.out⟩
  subst hname
  by_cases hns : ns = ns'
  case neg =>
    have HR : Hid (R = false) := by rw [Hid, HP.out, decide_eq_false hns]; simp
    have e0 := tl_ne hns
    go_enter Tryd.func11, Tryd.ntmps11
    go_wp2
    all_goals try (exfalso; omega)
    go_ret
    exact ⟨ret_bool HR.out.symm, HF0.out⟩
  subst hns
  by_cases hrs : rs = rs'
  case neg =>
    have HR : Hid (R = false) := by rw [Hid, HP.out, decide_eq_false hrs]; simp
    have e0 : (rs == rs') = false := by rw [beq_eq_false_iff_ne]; exact hrs
    go_enter Tryd.func11, Tryd.ntmps11
    go_wp2
    all_goals try (exfalso; omega)
    go_ret
    exact ⟨ret_bool HR.out.symm, HF0.out⟩
  subst hrs
  by_cases hgr : gr = gr'
  case neg =>
    have HR : Hid (R = false) := by rw [Hid, HP.out, decide_eq_false hgr]; simp
    have e0 : (gr == gr') = false := by rw [beq_eq_false_iff_ne]; exact hgr
    go_enter Tryd.func11, Tryd.ntmps11
    go_wp2
    all_goals try (exfalso; omega)
    go_ret
    exact ⟨ret_bool HR.out.symm, HF0.out⟩
  subst hgr
  by_cases hho : ho = ho'
  case neg =>
    have HR : Hid (R = false) := by rw [Hid, HP.out, decide_eq_false hho]; simp
    have e0 : (ho == ho') = false := by rw [beq_eq_false_iff_ne]; exact hho
    go_enter Tryd.func11, Tryd.ntmps11
    go_wp2
    all_goals try (exfalso; omega)
    go_ret
    exact ⟨ret_bool HR.out.symm, HF0.out⟩
  subst hho
  by_cases hlen : cs.length = cs'.length
  case neg =>
    have HR : Hid (R = false) := by rw [Hid, HP.out, sameL_len _ _ (by simpa using hlen)]; simp
    have e0 : ((cs.length : Int) == (cs'.length : Int)) = false := by rw [beq_eq_false_iff_ne]; omega
    go_enter Tryd.func11, Tryd.ntmps11
    go_wp2
    all_goals try (exfalso; omega)
    go_ret
    exact ⟨ret_bool HR.out.symm, HF0.out⟩
  have HR0 : Hid (R = sameL (cs.map (·.c)) (cs'.map (·.c))) := by rw [Hid, HP.out]; simp
  clear HP
  have HN2 : Hid (cs'.length = cs.length) := hlen.symm
  have hd2 := HN2.out
  rw [hd2] at HA1 HA2 HF0 ⊢
  clear hd2 hlen d2
  have HN1 : Hid (cs.length = cs.length) := rfl
  generalize hn : cs.length = n at *
  have HNN := Lib.hid hn
  clear hn HN1
  go_enter Tryd.func11, Tryd.ntmps11
  go_wp2
  all_goals try (exfalso; omega)
  generalize (w.alloc (.cells #[.string name, .string ns, .int .i64 rs, .int .i64 gr, .bool ho, .slice a n cap] 30)).alloc (.cells #[.string name, .string ns, .int .i64 rs, .int .i64 gr, .bool ho, .slice a' n cap'] 30) = W0 at *
  obtain ⟨b, hb⟩ : ∃ b, b = w.heap.size := ⟨_, rfl⟩
  rw [← hb] at HA1 HA2 ⊢
  clear hb
  go_loopw [5] (fun a5 wr => ∃ (k : Nat), a5 = .int .i64 (k : Int) ∧ k ≤ n ∧ Hid (sameL (cs.map (·.c)) (cs'.map (·.c)) = sameL ((cs.drop k).map (·.c)) ((cs'.drop k).map (·.c))) ∧ Hid (Fresh W0 wr)) (fun a5 _ => n - (intOf a5).toNat)
  case atStart => exact ⟨0, rfl, Nat.zero_le _, rfl, Fresh.refl _⟩
  case round =>
    obtain ⟨k, rfl, hk, HE, HF⟩ := hrel
    have hp5 := (box6p (HF.out.at HA1.out)).1.2.2.2.2.2
    have hq5 := (box6p (HF.out.at HA2.out)).1.2.2.2.2.2
    by_cases hltn : k < n
    · have hlt : k < cs.length := by rw [HNN.out]; exact hltn
      have hlt' : k < cs'.length := by rw [HN2.out]; exact hltn
      obtain ⟨g, o1, ea, hc⟩ := crow_form ((HROW.out.move HF0.out).move HF.out) hlt
      obtain ⟨g', o1', ea', hc'⟩ := crow_form ((HROW'.out.move HF0.out).move HF.out) hlt'
      obtain ⟨c0, c1, c2, c3, c4, c5, c6⟩ := hc k hlt
      obtain ⟨y0, y1, y2, y3, y4, y5, y6⟩ := hc' k hlt'
      have HST : Hid (sameL (cs.map (·.c)) (cs'.map (·.c)) = (sameC cs[k].c cs'[k].c && sameL ((cs.drop (k + 1)).map (·.c)) ((cs'.drop (k + 1)).map (·.c)))) := HE.out.trans (sameL_drop hlt hlt')
      have HM : Hid (cs[k].In wr) := ((HINS.out _ (List.getElem_mem hlt)).move HF0.out).move HF.out
      have HM' : Hid (cs'[k].In wr) := ((HINS'.out _ (List.getElem_mem hlt')).move HF0.out).move HF.out
      have HLM := Lib.hid (HLW.out _ (List.getElem_mem hlt))
      have HLM' := Lib.hid (HLW'.out _ (List.getElem_mem hlt'))
      rw [ea] at hp5
      rw [ea'] at hq5
      clear hc hc' ea ea'
      generalize cs[k] = m at *
      generalize cs'[k] = m' at *
      have HSC : Hid (sameC m.c m'.c = (decide (m.c.name = m'.c.name) && (decide (m.c.image = m'.c.image) && (decide (m.c.cmd = m'.c.cmd) && (decide (m.c.ports = m'.c.ports) && (decide (m.c.cpu = m'.c.cpu) && (decide (m.c.mem = m'.c.mem) && decide (m.c.env = m'.c.env)))))))) := rfl
      have HRC := Lib.hid HM.out.cmd
      have HRC' := Lib.hid HM'.out.cmd
      have HRP := Lib.hid HM.out.ports
      have HRP' := Lib.hid HM'.out.ports
      have HRE := Lib.hid HM.out.env
      have HRE' := Lib.hid HM'.out.env
      have l1 := HLM.out.lc
      have l2 := HLM.out.lp
      have l3 := HLM.out.le
      have l1' := HLM'.out.lc
      have l2' := HLM'.out.lp
      have l3' := HLM'.out.le
      clear HM HM' HLM HLM'
      generalize sameC m.c m'.c = SC at *
      generalize m.c.name = s0 at *
      generalize m'.c.name = s0' at *
      generalize m.c.image = s1 at *
      generalize m'.c.image = s1' at *
      generalize m.c.cpu = n4 at *
      generalize m'.c.cpu = n4' at *
      generalize m.c.mem = n5 at *
      generalize m'.c.mem = n5' at *
      generalize m.c.cmd = lc at *
      generalize m'.c.cmd = lc' at *
      generalize m.c.ports = lp at *
      generalize m'.c.ports = lp' at *
      generalize m.c.env = le at *
      generalize m'.c.env = le' at *
      generalize m.ca = ca at *
      generalize m'.ca = ca' at *
      generalize m.cc = cc at *
      generalize m'.cc = cc' at *
      generalize m.pa = pa at *
      generalize m'.pa = pa' at *
      generalize m.pc = pc at *
      generalize m'.pc = pc' at *
      generalize m.ea = ea at *
      generalize m'.ea = ea' at *
      generalize m.ec = ec at *
      generalize m'.ec = ec' at *
      have i1 : (0 : Int) ≤ (k : Int) := by omega
      have i2 : (k : Int) < (n : Int) := by omega
      have lt1 : g < wr.heap.size := World.block_lt_of_cell? wr _ c0
      have lt2 : g' < wr.heap.size := World.block_lt_of_cell? wr _ y0
      have lt3 : b < wr.heap.size := World.block_lt_of_cell? wr _ hp5
      have lt4 : b + 1 < wr.heap.size := World.block_lt_of_cell? wr _ hq5
      clear hlt hlt'
      go_wp2_with (fail)
      go_region
      · have HX := Lib.hid (two_new wr (.cells #[.string s0, .string s1, .slice ca lc.length cc, .slice pa lp.length pc, .int .i64 n4, .int .i64 n5, .slice ea le.length ec] 60) (.cells #[.string s0', .string s1', .slice ca' lc'.length cc', .slice pa' lp'.length pc', .int .i64 n4', .int .i64 n5', .slice ea' le'.length ec'] 60))
        have HF1 : Hid (Fresh wr ((wr.alloc (.cells #[.string s0, .string s1, .slice ca lc.length cc, .slice pa lp.length pc, .int .i64 n4, .int .i64 n5, .slice ea le.length ec] 60)).alloc (.cells #[.string s0', .string s1', .slice ca' lc'.length cc', .slice pa' lp'.length pc', .int .i64 n4', .int .i64 n5', .slice ea' le'.length ec'] 60)).drew) := Fresh.drew (((Fresh.refl wr).alloc _).alloc _)
        obtain ⟨HB6, HB7⟩ := HX.out
        clear HX
        generalize ((wr.alloc (.cells #[.string s0, .string s1, .slice ca lc.length cc, .slice pa lp.length pc, .int .i64 n4, .int .i64 n5, .slice ea le.length ec] 60)).alloc (.cells #[.string s0', .string s1', .slice ca' lc'.length cc', .slice pa' lp'.length pc', .int .i64 n4', .int .i64 n5', .slice ea' le'.length ec'] 60)).drew = W1 at *
        generalize wr.heap.size = z at *
        refine (‹∀ (a : Act) (w : World), Code.wp Tryd.prog _ _ a w → _› _ _ ?_)
        refine same_tail _ (by kernel_rfl) _ R w W1 z (z + 1) s0 s1 s0' s1' lc lc' lp lp' le le' n4 n5 n4' n5' ca pa ea ca' pa' ea' cc pc ec cc' pc' ec' _ _ _ _ _ _ _ _ _ _ _ _ _ _ _ _ _ _ _ _ _ _ _ _ _ _ _ _ _ _ _ _ _ _ _ _ _ _ _ _ _ _ _ _ _ _ _ _ _ _ _ _ _ _ _ _ _ _ _ _ _ _ _ _ _ _ _ _ _ _ _ _ _ _ _ _ _ _ _ _ _ _ _ _ _ _ _ _ _ _ _ _ _ _ _ _ _ _ _ _ _ _ _ _ _ _ _ _ _ _ _ _ _ _ _ _ _ _ _ _ _ _ _ _ _ _ _ _ _ _ _ _ _ _ _ _ _ _ _ _ _ _ _ _ _ _ _ _ _ _ _ _ _ _ _ (fun W f => f.at HB6) (fun W f => f.at HB7) (HRC.out.move HF1.out) (HRC'.out.move HF1.out) (HRP.out.move HF1.out) (HRP'.out.move HF1.out) (HRE.out.move HF1.out) (HRE'.out.move HF1.out) ⟨l1, l2, l3, l1', l2', l3'⟩ ((HF0.out.trans HF.out).trans HF1.out) ?_ (fun a W h => h) ?_
        · intro h
          rw [HR0.out, HST.out, HSC.out.trans h]; rfl
        · as_aux_lemma =>
          intro h W hfw j4 j8 j9 j69 j70 j71 j72 j73 j74 j75 j76 j77 j78 j79 j80 j81 j82 j83 j84 j85 j86 j87 j88 j89 j90 j91 j92 j93 j94 j95 j96 j97 j98 j99 j100 j101 j102 j103 j104 j105 j106 j107 j108 j109 j110 j111 j112 j113 j114 j115 j116 j117 j118 j119 j120 j121 j122 j123 j124 j125 j126 j127 j128 j129 j130 j131 j132 j133 j134 j135 j136 j137 j138 j139 j140 j141 j142 j143 j144 j145 j146 j147 j148 j149 j150 j151 j152 j153 j154 j155 j156
          have HN := Lib.hid (HST.out.trans (by rw [HSC.out.trans h, Bool.true_and]))
          have HFN := Lib.hid ((HF.out.trans HF1.out).trans hfw)
          clear c0 c1 c2 c3 c4 c5 c6 y0 y1 y2 y3 y4 y5 y6 hp5 hq5 lt1 lt2 lt3 lt4 HSC HST
          go_wp2
          all_goals try (exfalso; omega)
          go_roundw
          case rel => exact ⟨k + 1, by simp, by omega, HN.out, HFN.out⟩
          case measure => simp [intOf]; omega
      · have HX := Lib.hid (two_new wr (.cells #[.string s0', .string s1', .slice ca' lc'.length cc', .slice pa' lp'.length pc', .int .i64 n4', .int .i64 n5', .slice ea' le'.length ec'] 60) (.cells #[.string s0, .string s1, .slice ca lc.length cc, .slice pa lp.length pc, .int .i64 n4, .int .i64 n5, .slice ea le.length ec] 60))
        have HF1 : Hid (Fresh wr ((wr.alloc (.cells #[.string s0', .string s1', .slice ca' lc'.length cc', .slice pa' lp'.length pc', .int .i64 n4', .int .i64 n5', .slice ea' le'.length ec'] 60)).alloc (.cells #[.string s0, .string s1, .slice ca lc.length cc, .slice pa lp.length pc, .int .i64 n4, .int .i64 n5, .slice ea le.length ec] 60)).drew) := Fresh.drew (((Fresh.refl wr).alloc _).alloc _)
        obtain ⟨HB6, HB7⟩ := HX.out
        clear HX
        generalize ((wr.alloc (.cells #[.string s0', .string s1', .slice ca' lc'.length cc', .slice pa' lp'.length pc', .int .i64 n4', .int .i64 n5', .slice ea' le'.length ec'] 60)).alloc (.cells #[.string s0, .string s1, .slice ca lc.length cc, .slice pa lp.length pc, .int .i64 n4, .int .i64 n5, .slice ea le.length ec] 60)).drew = W1 at *
        generalize wr.heap.size = z at *
        refine (‹∀ (a : Act) (w : World), Code.wp Tryd.prog _ _ a w → _› _ _ ?_)
        refine same_tail _ (by kernel_rfl) _ R w W1 (z + 1) z s0 s1 s0' s1' lc lc' lp lp' le le' n4 n5 n4' n5' ca pa ea ca' pa' ea' cc pc ec cc' pc' ec' _ _ _ _ _ _ _ _ _ _ _ _ _ _ _ _ _ _ _ _ _ _ _ _ _ _ _ _ _ _ _ _ _ _ _ _ _ _ _ _ _ _ _ _ _ _ _ _ _ _ _ _ _ _ _ _ _ _ _ _ _ _ _ _ _ _ _ _ _ _ _ _ _ _ _ _ _ _ _ _ _ _ _ _ _ _ _ _ _ _ _ _ _ _ _ _ _ _ _ _ _ _ _ _ _ _ _ _ _ _ _ _ _ _ _ _ _ _ _ _ _ _ _ _ _ _ _ _ _ _ _ _ _ _ _ _ _ _ _ _ _ _ _ _ _ _ _ _ _ _ _ _ _ _ _ (fun W f => f.at HB7) (fun W f => f.at HB6) (HRC.out.move HF1.out) (HRC'.out.move HF1.out) (HRP.out.move HF1.out) (HRP'.out.move HF1.out) (HRE.out.move HF1.out) (HRE'.out.move HF1.out) ⟨l1, l2, l3, l1', l2', l3'⟩ ((HF0.out.trans HF.out).trans HF1.out) ?_ (fun a W h => h) ?_
        · intro h
          rw [HR0.out, HST.out, HSC.out.trans h]; rfl
        · as_aux_lemma =>
          intro h W hfw j4 j8 j9 j69 j70 j71 j72 j73 j74 j75 j76 j77 j78 j79 j80 j81 j82 j83 j84 j85 j86 j87 j88 j89 j90 j91 j92 j93 j94 j95 j96 j97 j98 j99 j100 j101 j102 j103 j104 j105 j106 j107 j108 j109 j110 j111 j112 j113 j114 j115 j116 j117 j118 j119 j120 j121 j122 j123 j124 j125 j126 j127 j128 j129 j130 j131 j132 j133 j134 j135 j136 j137 j138 j139 j140 j141 j142 j143 j144 j145 j146 j147 j148 j149 j150 j151 j152 j153 j154 j155 j156
          have HN := Lib.hid (HST.out.trans (by rw [HSC.out.trans h, Bool.true_and]))
          have HFN := Lib.hid ((HF.out.trans HF1.out).trans hfw)
          clear c0 c1 c2 c3 c4 c5 c6 y0 y1 y2 y3 y4 y5 y6 hp5 hq5 lt1 lt2 lt3 lt4 HSC HST
          go_wp2
          all_goals try (exfalso; omega)
          go_roundw
          case rel => exact ⟨k + 1, by simp, by omega, HN.out, HFN.out⟩
          case measure => simp [intOf]; omega
    · obtain rfl : k = n := by omega
      have HR : Hid (R = true) := by rw [Hid, HR0.out, HE.out, List.drop_of_length_le (by rw [HNN.out]; exact Nat.le_refl _), List.drop_of_length_le (by rw [HN2.out]; exact Nat.le_refl _)]; rfl
      go_wp2
      all_goals try (exfalso; omega)
      go_ret
      exact ⟨ret_bool HR.out.symm, HF0.out.trans HF.out⟩
end Go.Proofs.YtfhhmajkacjbgaaDoor
namespace Go.Proofs.YtfhhmajkacjbgaaDoor
open Go.ChangeShapes Go.WideShapes Go.ChangeAt Go.RowKit
attribute [local go_sem ↓] Go.wp_at_zero Go.wp_at_succ

theorem pod_cells {w : World} {b t : Nat} {p : PM} (h : w.heap[b]? = some (podObj p t)) :
    (w.cell? ⟨b, 0, none⟩ = some (.string p.name) ∧ w.cell? ⟨b, 1, none⟩ = some (.string p.ns) ∧ w.cell? ⟨b, 2, none⟩ = some (.int .i64 p.restart) ∧ w.cell? ⟨b, 3, none⟩ = some (.int .i64 p.grace) ∧ w.cell? ⟨b, 4, none⟩ = some (.bool p.host) ∧ w.cell? ⟨b, 5, none⟩ = some (.slice p.a p.cs.length p.cap)) ∧ ∀ i, w.frozen? ⟨b, i, none⟩ = false := box6p h
theorem app_size (s : ByteArray) : (s ++ ⟨#[120]⟩).size = s.size + 1 := by simp [ByteArray.size_append]; rfl
set_option maxRecDepth 100000 in
set_option maxHeartbeats 40000000 in
theorem defaults_tail (cd : Code) (hcd : Tryd.f5.body.bind (codeAt 7) = some cd) (Q : Exit → Act → World → Prop) (w W : World) (b z3 B : Nat) (PP q : PM)
    (t0 t2 t4 t5 t6 t7 t8 t9 t10 t11 t12 t13 t14 t15 t16 t17 t18 t19 t20 t21 t22 t23 t24 t25 t26 t27 t28 t29 t30 t31 t32 t33 t34 t35 t36 t37 t38 t39 t40 t41 t42 t43 t44 t45 t46 t47 t48 t49 t50 t51 t52 t53 t54 t55 t56 t57 t58 t59 t60 t61 t62 t63 t64 t65 t66 t67 t68 t69 t70 t71 t72 t73 t74 t75 t76 t77 t78 t79 t80 t81 t82 t83 t84 t85 t86 t87 t88 t89 t90 t91 t92 t93 t94 t95 t96 t97 t98 t99 t100 t101 t102 : Value)
    (HT : Hid (Tabs w)) (HP : Hid (PP.At w)) (HLP : Hid PP.Low) (HB : Hid (W.heap[b]? = some (podObj PP 25))) (HA3 : Hid (W.heap[z3]? = some (podObj q 25))) (HQA : Hid (QAt W B q)) (hbw : w.heap.size ≤ B) (HSML : Hid (∀ m ∈ q.cs, m.c.Sml)) (hlen : q.cs.length ≤ 1000) (HF : Hid (Fresh w W))
    (HRET : Hid (∀ a W, bodyPost Tryd.prog Tryd.f5 (fun e w' => e = .returned (.bool true) ∧ Fresh w w') Exit.ret a W → Q Exit.ret a W)) :
    Code.wp Tryd.prog cd Q { tmps := #[t0, .pointer (some ⟨b, 0, none⟩), t2, .pointer (some ⟨z3, 0, none⟩), t4, t5, t6, t7, t8, t9, t10, t11, t12, t13, t14, t15, t16, t17, t18, t19, t20, t21, t22, t23, t24, t25, t26, t27, t28, t29, t30, t31, t32, t33, t34, t35, t36, t37, t38, t39, t40, t41, t42, t43, t44, t45, t46, t47, t48, t49, t50, t51, t52, t53, t54, t55, t56, t57, t58, t59, t60, t61, t62, t63, t64, t65, t66, t67, t68, t69, t70, t71, t72, t73, t74, t75, t76, t77, t78, t79, t80, t81, t82, t83, t84, t85, t86, t87, t88, t89, t90, t91, t92, t93, t94, t95, t96, t97, t98, t99, t100, t101, t102], defers := [] } W := by
  obtain rfl : cd = _ := Option.some.inj (hcd.symm.trans (show Tryd.f5.body.bind (codeAt 7) = some _ from rfl))
  clear hcd
  have HOF := Lib.hid (of_own PP w W HP.out HF.out HLP.out)
  rw [show PP.val = .agg #[.string PP.name, .string PP.ns, .int .i64 PP.restart, .int .i64 PP.grace, .bool PP.host, .slice PP.a PP.cs.length PP.cap] from rfl] at HOF
  obtain ⟨⟨q0, q1, q2, q3, q4, q5⟩, _⟩ := pod_cells HB.out
  go_wp2_with (fail)
  refine HOF.out.mono ?_
  rintro e W1 ⟨kp, rfl, hkd, hka, hf⟩
  have HKD := Lib.hid hkd
  have HKA := Lib.hid hka
  have HF1 := Lib.hid hf
  clear hkd hka hf q0 q1 q2 q3 q4 q5 HOF
  rw [show kp.val = .agg #[.string kp.name, .string kp.ns, .int .i64 kp.restart, .int .i64 kp.grace, .bool kp.host, .slice kp.a kp.cs.length kp.cap] from rfl]
  have HA5 := Lib.hid (show (W1.alloc (podObj kp 30)).heap[W1.heap.size]? = some (podObj kp 30) from at_new _ _)
  have HFB := Lib.hid ((Fresh.refl W1).alloc (podObj kp 30))
  obtain ⟨W2, hW2⟩ : ∃ W2, W2 = W1.alloc (podObj kp 30) := ⟨_, rfl⟩
  rw [← hW2] at HA5 HFB
  have hW2b : W1.alloc (.cells #[.string kp.name, .string kp.ns, .int .i64 kp.restart, .int .i64 kp.grace, .bool kp.host, .slice kp.a kp.cs.length kp.cap] 30) = W2 := hW2.symm
  clear hW2
  obtain ⟨⟨_, _, _, _, _, q5⟩, _⟩ := pod_cells ((HF1.out.trans HFB.out).at HA3.out)
  go_wp2
  clear hW2b q5
  generalize W1.heap.size = z5 at *
  have HST : Hid (DSt w W2 b z3 z5 B W.heap.size 30000 PP q kp) :=
    ⟨((Mut.of HQA.out HSML.out (by omega)).go HF1.out).go HFB.out, (HF1.out.trans HFB.out).at HB.out, (HF1.out.trans HFB.out).at HA3.out, HA5.out, HKA.out.fresh HFB.out, (HF.out.trans HF1.out).trans HFB.out, hbw⟩
  obtain ⟨n, hn⟩ : ∃ n, n = q.cs.length := ⟨_, rfl⟩
  have HN := Lib.hid hn
  rw [← hn]
  rw [← hn] at hlen
  clear hn HF1 HFB HA5 HKA HQA HB HA3
  generalize W.heap.size = Bk at *
  have HSL : Hid (∀ k (h : k < q.cs.length), q.cs[k].c.cmd.length ≤ 2000 ∧ q.cs[k].c.ports.length ≤ 2000) := fun k h => ⟨(HSML.out _ (List.getElem_mem h)).lc, (HSML.out _ (List.getElem_mem h)).lp⟩
  go_loopw [37] (fun a37 wr => ∃ (k : Nat), a37 = .int .i64 (k : Int) ∧ k ≤ n ∧ Hid (DSt w wr b z3 z5 B Bk (30000 + k * 3000) PP q kp)) (fun a37 _ => n - (intOf a37).toNat)
  case atStart => exact ⟨0, rfl, Nat.zero_le _, HST.out⟩
  case round =>
    obtain ⟨k, rfl, hk, HS⟩ := hrel
    obtain ⟨wo, hwo⟩ : ∃ wo, wo = wr := ⟨_, rfl⟩
    subst hwo
    by_cases hltn : k < n
    · have hlt : k < q.cs.length := by rw [← HN.out]; exact hltn
      have hc := HS.out.mt.crow
      rcases hc with h0 | ⟨g, arr, ea, hgb, hg, hx⟩
      · exfalso
        rw [h0] at hlt
        simp at hlt
      obtain ⟨⟨s, hs1, hs2⟩, hx2, hx3⟩ := hx k hlt
      have HTR : Hid (∀ W4 K, DSt w W4 b z3 z5 B Bk K PP q kp → TRow W4 B K q.cs[k].ca q.cs[k].c.cmd.length ∧ PRow W4 B q.cs[k].pa q.cs[k].c.ports.length) := fun W4 K h => ⟨h.mt.trow _ (List.getElem_mem hlt), h.mt.prow _ (List.getElem_mem hlt)⟩
      obtain ⟨hl1, hl2⟩ := HSL.out k hlt
      have HNX : Hid (∀ W4 K, DSt w W4 b z3 z5 B Bk K PP q kp → ∃ arr, W4.heap[g]? = some (.cells arr 53 (0, 0)) ∧ arr[k * 7 + 2]? = some (.slice q.cs[k].ca q.cs[k].c.cmd.length q.cs[k].cc) ∧ arr[k * 7 + 3]? = some (.slice q.cs[k].pa q.cs[k].c.ports.length q.cs[k].pc)) := fun W4 K h => by
        rcases h.mt.crow with h0 | ⟨g2, arr2, ea2, _, hg2, hx4⟩
        · exfalso
          rw [h0] at hlt
          simp at hlt
        · rw [ea] at ea2
          cases ea2
          exact ⟨arr2, hg2, (hx4 k hlt).2⟩
      have HSTORE := Lib.hid (HS.out.setC (K' := 30000 + k * 3000 + 1) (k := k) hgb hg (by omega) (t := s ++ ⟨#[120]⟩) (by rw [app_size]; omega))
      have r0 := cell_of_at hg hs1
      have f0 : wo.frozen? ⟨g, k * 7, none⟩ = false := by simp [World.frozen?, hg]
      have HEA := Lib.hid ea
      obtain ⟨⟨_, _, _, _, _, q5⟩, _⟩ := pod_cells HS.out.at3
      rw [ea, ← HN.out] at q5
      have hgz : ¬ g = z3 := fun e => by
        have h3 := HS.out.at3
        rw [← e, hg] at h3
        cases h3
      have hgz2 : ¬ z3 = g := fun e => hgz e.symm
      clear hx hx2 hx3 hs1 hg arr
      have i1 : (0 : Int) ≤ (k : Int) := by omega
      have i2 : (k : Int) < (n : Int) := by omega
      have i3 : ¬ 9223372036854775807 < s.size + 1 := by omega
      generalize q.cs[k].c.cmd.length = nc at *
      generalize q.cs[k].c.ports.length = np at *
      generalize q.cs[k].ca = ca at *
      generalize q.cs[k].cc = cc at *
      generalize q.cs[k].pa = pa at *
      generalize q.cs[k].pc = pc at *
      go_upto_region 12 with (fail)
      generalize wo.setCell ⟨g, k * 7, none⟩ (.string (s ++ ⟨#[120]⟩)) = W3 at *
      clear r0 f0 q5
      obtain ⟨⟨_, _, _, _, _, q5⟩, _⟩ := pod_cells HSTORE.out.at3
      rw [HEA.out, ← HN.out] at q5
      obtain ⟨arr, hg, hx2, hx3⟩ := HNX.out _ _ HSTORE.out
      have c2 := cell_of_at hg hx2
      clear hx2 hx3 hg arr
      go_wp2
      all_goals try (exfalso; omega)
      clear c2 q5
      go_loopw [56] (fun a56 wq => ∃ (j : Nat), a56 = .int .i64 (j : Int) ∧ j ≤ nc ∧ Hid (DSt w wq b z3 z5 B Bk (30000 + k * 3000 + 1 + j) PP q kp)) (fun a56 _ => nc - (intOf a56).toNat)
      case atStart => exact ⟨0, rfl, Nat.zero_le _, HSTORE.out⟩
      case round =>
        obtain ⟨j, rfl, hj, HS2⟩ := hrel
        obtain ⟨⟨_, _, _, _, _, q5⟩, _⟩ := pod_cells HS2.out.at3
        rw [HEA.out, ← HN.out] at q5
        obtain ⟨arr, hg, hx2, hx3⟩ := HNX.out _ _ HS2.out
        have c2 := cell_of_at hg hx2
        have c3 := cell_of_at hg hx3
        clear hx2 hx3 hg arr
        by_cases hlt2 : j < nc
        · have ht := (HTR.out _ _ HS2.out).1
          rcases ht with h0 | ⟨gt, arr, ea2, hgb2, hg, hx⟩
          · exfalso; omega
          subst ea2
          obtain ⟨s2, hs1, hs2b⟩ := hx j hlt2
          have HSTORE2 := Lib.hid (HS2.out.setT (K' := 30000 + k * 3000 + 1 + (j + 1)) (k := j) hgb2 hg (by omega) (t := s2 ++ ⟨#[120]⟩) (by rw [app_size]; omega))
          have r0 := cell_of_at hg hs1
          have f0 : wr.frozen? ⟨gt, j, none⟩ = false := by simp [World.frozen?, hg]
          have i4 : (0 : Int) ≤ (j : Int) := by omega
          have i5 : (j : Int) < (nc : Int) := by omega
          have i6 : ¬ 9223372036854775807 < s2.size + 1 := by omega
          clear hx hs1 hg arr c3
          go_wp2
          all_goals try (exfalso; omega)
          go_roundw
          case rel => exact ⟨j + 1, by simp, by omega, HSTORE2.out⟩
          case measure => simp [intOf]; omega
        · obtain rfl : j = nc := by omega
          obtain ⟨w4, hw4⟩ : ∃ w4, w4 = wr := ⟨_, rfl⟩
          subst hw4
          have HS3 : Hid (DSt w w4 b z3 z5 B Bk (30000 + (k + 1) * 3000) PP q kp) := HS2.out.le (by omega)
          clear HS2 c2
          go_wp2
          all_goals try (exfalso; omega)
          clear c3 q5
          go_loopw [78] (fun a78 wq => ∃ (j : Nat), a78 = .int .i64 (j : Int) ∧ j ≤ np ∧ Hid (DSt w wq b z3 z5 B Bk (30000 + (k + 1) * 3000) PP q kp)) (fun a78 _ => np - (intOf a78).toNat)
          case atStart => exact ⟨0, rfl, Nat.zero_le _, HS3.out⟩
          case round =>
            obtain ⟨jj, rfl, hj2, HS4⟩ := hrel
            obtain ⟨⟨_, _, _, _, _, q5⟩, _⟩ := pod_cells HS4.out.at3
            rw [HEA.out, ← HN.out] at q5
            obtain ⟨arr, hg, hx2, hx3⟩ := HNX.out _ _ HS4.out
            have c3 := cell_of_at hg hx3
            clear hx2 hx3 hg arr
            by_cases hlt3 : jj < np
            · have ht := (HTR.out _ _ HS4.out).2
              rcases ht with h0 | ⟨gp, arr, ea2, hgb2, hg, hx⟩
              · exfalso; omega
              subst ea2
              obtain ⟨pn, hs1⟩ := hx jj hlt3
              have HSTORE2 := Lib.hid (fun t : Int => HS4.out.setP (k := jj * 2) hgb2 hg t)
              have r0 := cell_of_at hg hs1
              have f0 : wr.frozen? ⟨gp, jj * 2, none⟩ = false := by simp [World.frozen?, hg]
              have i4 : (0 : Int) ≤ (jj : Int) := by omega
              have i5 : (jj : Int) < (np : Int) := by omega
              clear hx hs1 hg arr
              go_wp2
              all_goals try (exfalso; omega)
              go_roundw
              case rel => exact ⟨jj + 1, by simp, by omega, HSTORE2.out _⟩
              case measure => simp [intOf]; omega
            · obtain rfl : jj = np := by omega
              clear c3 q5
              go_wp2
              all_goals try (exfalso; omega)
              go_roundw
              case rel => exact ⟨k + 1, by simp, by omega, HS4.out⟩
              case measure => simp [intOf]; omega
    · obtain rfl : k = n := by omega
      go_wp2_with (fail)
      all_goals try (exfalso; omega)
      have HAW := Lib.hid (fun X (f : Fresh w X) => awake14_any X (HT.out.move f))
      have HOF := Lib.hid (fun X (f : Fresh w X) => of_any PP X (HP.out.move f) HLP.out)
      rw [show PP.val = .agg #[.string PP.name, .string PP.ns, .int .i64 PP.restart, .int .i64 PP.grace, .bool PP.host, .slice PP.a PP.cs.length PP.cap] from rfl] at HOF
      have HKP : Hid (∀ w', Fresh wo w' → (w'.cell? ⟨b, 0, none⟩ = some (.string PP.name) ∧ w'.cell? ⟨b, 1, none⟩ = some (.string PP.ns) ∧ w'.cell? ⟨b, 2, none⟩ = some (.int .i64 PP.restart) ∧ w'.cell? ⟨b, 3, none⟩ = some (.int .i64 PP.grace) ∧ w'.cell? ⟨b, 4, none⟩ = some (.bool PP.host) ∧ w'.cell? ⟨b, 5, none⟩ = some (.slice PP.a PP.cs.length PP.cap)) ∧ (w'.cell? ⟨z5, 0, none⟩ = some (.string kp.name) ∧ w'.cell? ⟨z5, 1, none⟩ = some (.string kp.ns) ∧ w'.cell? ⟨z5, 2, none⟩ = some (.int .i64 kp.restart) ∧ w'.cell? ⟨z5, 3, none⟩ = some (.int .i64 kp.grace) ∧ w'.cell? ⟨z5, 4, none⟩ = some (.bool kp.host) ∧ w'.cell? ⟨z5, 5, none⟩ = some (.slice kp.a kp.cs.length kp.cap))) := fun X f => ⟨(pod_cells (f.at HS.out.at1)).1, (pod_cells (f.at HS.out.at5)).1⟩
      have HA1 := Lib.hid (HAW.out wo.drew HS.out.fr.drew)
      have HLK := Lib.hid (low_pd HKD.out HLP.out)
      obtain ⟨⟨k0, k1, k2, k3, k4, k5⟩, j0, j1, j2, j3, j4, j5⟩ := HKP.out wo (Fresh.refl _)
      go_region_held3 (fun w' => (w'.cell? ⟨b, 0, none⟩ = some (.string PP.name) ∧ w'.cell? ⟨b, 1, none⟩ = some (.string PP.ns) ∧ w'.cell? ⟨b, 2, none⟩ = some (.int .i64 PP.restart) ∧ w'.cell? ⟨b, 3, none⟩ = some (.int .i64 PP.grace) ∧ w'.cell? ⟨b, 4, none⟩ = some (.bool PP.host) ∧ w'.cell? ⟨b, 5, none⟩ = some (.slice PP.a PP.cs.length PP.cap)) ∧ (w'.cell? ⟨z5, 0, none⟩ = some (.string kp.name) ∧ w'.cell? ⟨z5, 1, none⟩ = some (.string kp.ns) ∧ w'.cell? ⟨z5, 2, none⟩ = some (.int .i64 kp.restart) ∧ w'.cell? ⟨z5, 3, none⟩ = some (.int .i64 kp.grace) ∧ w'.cell? ⟨z5, 4, none⟩ = some (.bool kp.host) ∧ w'.cell? ⟨z5, 5, none⟩ = some (.slice kp.a kp.cs.length kp.cap))) (go_keep)
        (first
          | (go_at_call 7; (with_reducible refine HA1.out.mono ?_); rintro e V1 ⟨rfl, hf⟩; have HG1 := Lib.hid ((Fresh.refl wo).drew.trans hf); obtain ⟨⟨a0, a1, a2, a3, a4, a5⟩, b0, b1, b2, b3, b4, b5⟩ := HKP.out _ HG1.out; clear hf)
          | (go_at_call 8; (with_reducible refine (HOF.out _ (HS.out.fr.trans HG1.out)).mono ?_); rintro e V2 ⟨m, rfl, hmd, hmat, hf⟩; have HG2 := Lib.hid (HG1.out.trans hf); have HSA : Hid (Calls Tryd.prog 11 #[.agg #[.string m.name, .string m.ns, .int .i64 m.restart, .int .i64 m.grace, .bool m.host, .slice m.a m.cs.length m.cap], .agg #[.string kp.name, .string kp.ns, .int .i64 kp.restart, .int .i64 kp.grace, .bool kp.host, .slice kp.a kp.cs.length kp.cap]] V2 fun e w' => e = .returned (.bool true) ∧ Fresh V2 w') := (by have := rsame_any m kp V2 hmat ((HS.out.kept.at HS.out.fr).move HG2.out) (low_pd hmd HLP.out) HLK.out; rw [hmd, HKD.out, sameP_refl] at this; exact this); obtain ⟨⟨c0, c1, c2, c3, c4, c5⟩, d0, d1, d2, d3, d4, d5⟩ := HKP.out _ HG2.out; clear hf hmd hmat; rw [show m.val = .agg #[.string m.name, .string m.ns, .int .i64 m.restart, .int .i64 m.grace, .bool m.host, .slice m.a m.cs.length m.cap] from rfl])
          | (go_at_call 11; (with_reducible refine HSA.out.mono ?_); rintro e V3 ⟨rfl, hf⟩; have HG3 := Lib.hid (HG2.out.trans hf); obtain ⟨⟨e0, e1, e2, e3, e4, e5⟩, f0, f1, f2, f3, f4, f5⟩ := HKP.out _ HG3.out; clear hf))
      go_wp2
      all_goals try (exfalso; omega)
      refine HRET.out _ _ ?_
      go_ret
      exact ⟨rfl, HS.out.fr.trans HG3.out⟩
end Go.Proofs.YtfhhmajkacjbgaaDoor
