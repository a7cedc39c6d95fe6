/-
  Are two rows of containers alike, by package spec; two pods?
  Are two pods alike, by the document: a round behind its two boxes (printed by a script).
  Are two pods alike, by the document?
-/
import Derived.Test.YtldncgelghcjeaaGreatDoorCat19
import Derived.Test.YtldncgelghcjeaaGreatDoorCat11
import Derived.RegionTactic
import Derived.Deep.RegionHeld3
import Derived.Deep.DrawnRows
import Derived.Deep.Cut
set_option linter.unusedSimpArgs false
set_option linter.unusedVariables false
namespace Go.Proofs.YtldncgelghcjeaaGreatDoor
open Go.ChangeShapes Go.WideShapes Go.ChangeAt Go.RowKit

theorem sameL_len : ∀ (a b : List Ct), a.length ≠ b.length → sameL a b = false
  | [], [], h => absurd rfl h
  | [], _ :: _, _ => rfl
  | _ :: _, [], _ => rfl
  | x :: a, y :: b, h => by
    rw [sameL, sameL_len a b (fun e => h (by simp [e])), Bool.and_false]
theorem sameL_drop {a b : List CM} {k : Nat} (h : k < a.length) (h' : k < b.length) : sameL ((a.drop k).map (·.c)) ((b.drop k).map (·.c)) = (sameC a[k].c b[k].c && sameL ((a.drop (k + 1)).map (·.c)) ((b.drop (k + 1)).map (·.c))) := by
  rw [List.drop_eq_getElem_cons h, List.drop_eq_getElem_cons h', List.map_cons, List.map_cons, sameL]
set_option maxRecDepth 100000 in
set_option maxHeartbeats 4000000 in
theorem eqFunc_any (cs cs' : List CM) (a a' : Option Addr) (cap cap' : Nat) (w : World) (ha : RowAt w a (ccells cs)) (ha' : RowAt w a' (ccells cs')) (hi : ∀ m ∈ cs, m.In w) (hi' : ∀ m ∈ cs', m.In w) (hl : cs.length ≤ 1048576) (hl' : cs'.length ≤ 1048576) (lw : ∀ m ∈ cs, m.c.Low) (lw' : ∀ m ∈ cs', m.c.Low) :
    Calls Tryz.prog 96 #[.slice a cs.length cap, .slice a' cs'.length cap', .func (.func 97) #[] #[]] w fun e w' => e = .returned (.bool (sameL (cs.map (·.c)) (cs'.map (·.c)))) ∧ Fresh w w' := by
  have HROW := Lib.hid ha
  have HROW' := Lib.hid ha'
  have HINS := Lib.hid hi
  have HINS' := Lib.hid hi'
  have HLW := Lib.hid lw
  have HLW' := Lib.hid lw'
  clear ha ha' hi hi' lw lw'
  obtain ⟨R, hR⟩ : ∃ R, R = sameL (cs.map (·.c)) (cs'.map (·.c)) := ⟨_, rfl⟩
  rw [← hR]
  have HR0 := Lib.hid hR
  clear hR
  by_cases hlen : cs.length = cs'.length
  case neg =>
    have HR : Hid (R = false) := by rw [Hid, HR0.out, sameL_len _ _ (by simpa using hlen)]
    have e0 : ((cs.length : Int) == (cs'.length : Int)) = false := by rw [beq_eq_false_iff_ne]; omega
    go_enter Tryz.func96, Tryz.ntmps96
    go_wp2
    all_goals try (exfalso; omega)
    go_ret
    exact ⟨ret_bool HR.out.symm, Fresh.refl _⟩
  have HN2 : Hid (cs'.length = cs.length) := hlen.symm
  have hd2 := HN2.out
  rw [hd2]
  clear hd2 hlen hl'
  generalize hn : cs.length = n at *
  have HNN := Lib.hid hn
  clear hn
  go_enter Tryz.func96, Tryz.ntmps96
  go_wp2
  all_goals try (exfalso; omega)
  go_loopw [17] (fun a17 wr => ∃ (k : Nat), a17 = .int .i64 (k : Int) ∧ k ≤ n ∧ Hid (R = sameL ((cs.drop k).map (·.c)) ((cs'.drop k).map (·.c))) ∧ Hid (Fresh w wr)) (fun a17 _ => n - (intOf a17).toNat)
  case atStart => exact ⟨0, rfl, Nat.zero_le _, HR0.out, Fresh.refl _⟩
  case round =>
    obtain ⟨k, rfl, hk, HE, HF⟩ := hrel
    by_cases hltn : k < n
    · have hlt : k < cs.length := by rw [HNN.out]; exact hltn
      have hlt' : k < cs'.length := by rw [HN2.out]; exact hltn
      obtain ⟨g, o1, rfl, hc⟩ := crow_form (HROW.out.move HF.out) hlt
      obtain ⟨g', o1', rfl, hc'⟩ := crow_form (HROW'.out.move HF.out) hlt'
      obtain ⟨c0, c1, c2, c3, c4, c5, c6⟩ := hc k hlt
      obtain ⟨y0, y1, y2, y3, y4, y5, y6⟩ := hc' k hlt'
      have HST : Hid (R = (sameC cs[k].c cs'[k].c && sameL ((cs.drop (k + 1)).map (·.c)) ((cs'.drop (k + 1)).map (·.c)))) := HE.out.trans (sameL_drop hlt hlt')
      have HCALL : Hid (∀ W, Fresh wr W → Calls Tryz.prog 97 #[cs[k].val, cs'[k].val] W fun e w' => e = .returned (.bool (sameC cs[k].c cs'[k].c)) ∧ Fresh W w') := fun W f =>
        csame_any cs[k] cs'[k] W (((HINS.out _ (List.getElem_mem hlt)).move HF.out).move f) (((HINS'.out _ (List.getElem_mem hlt')).move HF.out).move f) (HLW.out _ (List.getElem_mem hlt)) (HLW'.out _ (List.getElem_mem hlt'))
      have lt1 : g' < wr.heap.size := World.block_lt_of_cell? wr _ y0
      clear hc hc'
      generalize sameC cs[k].c cs'[k].c = SC at *
      generalize cs[k] = m at *
      generalize cs'[k] = m' at *
      clear hlt hlt'
      obtain ⟨⟨s0, s1, lc, lp, n4, n5, le⟩, ca, cc, pa, pc, ea, ec⟩ := m
      obtain ⟨⟨s0', s1', lc', lp', n4', n5', le'⟩, ca', cc', pa', pc', ea', ec'⟩ := m'
      dsimp only [CM.val] at *
      generalize lc.length = z1 at *
      generalize lp.length = z2 at *
      generalize le.length = z3 at *
      generalize lc'.length = z1' at *
      generalize lp'.length = z2' at *
      generalize le'.length = z3' at *
      have i1 : (0 : Int) ≤ (k : Int) := by omega
      have i2 : (k : Int) < (n : Int) := by omega
      have HFA := Lib.hid (((Fresh.refl wr).alloc (.cells #[.string s0, .string s1, .slice ca z1 cc, .slice pa z2 pc, .int .i64 n4, .int .i64 n5, .slice ea z3 ec] 126)).alloc (.cells #[.string s0', .string s1', .slice ca' z1' cc', .slice pa' z2' pc', .int .i64 n4', .int .i64 n5', .slice ea' z3' ec'] 126))
      have HC2 := Lib.hid (HCALL.out _ HFA.out)
      clear HCALL
      cases SC with
      | false =>
        have HR : Hid (R = false) := by rw [Hid, HST.out]; rfl
        clear HST
        go_wp2_with (fail)
        all_goals try (exfalso; omega)
        refine HC2.out.mono ?_
        rintro e W1 ⟨rfl, hf⟩
        have HF2 := Lib.hid ((HF.out.trans HFA.out).trans hf)
        clear hf
        go_wp2
        all_goals try (exfalso; omega)
        go_ret
        exact ⟨ret_bool HR.out.symm, HF2.out⟩
      | true =>
        have HN : Hid (R = sameL ((cs.drop (k + 1)).map (·.c)) ((cs'.drop (k + 1)).map (·.c))) := by rw [Hid, HST.out]; rfl
        clear HST
        go_wp2_with (fail)
        all_goals try (exfalso; omega)
        refine HC2.out.mono ?_
        rintro e W1 ⟨rfl, hf⟩
        have HF2 := Lib.hid ((HF.out.trans HFA.out).trans hf)
        clear hf
        go_wp2
        all_goals try (exfalso; omega)
        go_roundw
        case rel => exact ⟨k + 1, by simp, by omega, HN.out, HF2.out⟩
        case measure => simp [intOf]; omega
    · obtain rfl : k = n := by omega
      have HR : Hid (R = true) := by rw [Hid, HE.out, List.drop_of_length_le (by rw [HNN.out]; exact Nat.le_refl _), List.drop_of_length_le (by rw [HN2.out]; exact Nat.le_refl _)]; rfl
      go_wp2
      all_goals try (exfalso; omega)
      go_ret
      exact ⟨ret_bool HR.out.symm, HF.out⟩
set_option maxRecDepth 100000 in
set_option maxHeartbeats 4000000 in
theorem same_any (p q : PM) (w : World) (h : p.At w) (h2 : q.At w) (hl : p.Low) (hl2 : q.Low) :
    Calls Tryz.prog 57 #[p.val, q.val] w fun e w' => e = .returned (.bool (sameP p.pd q.pd)) ∧ Fresh w w' := by
  obtain ⟨name, ns, rs, gr, ho, a, cap, cs⟩ := p
  obtain ⟨name', ns', rs', gr', ho', a', cap', cs'⟩ := q
  have HP : Hid (sameP (PM.mk name ns rs gr ho a cap cs).pd (PM.mk name' ns' rs' gr' ho' a' cap' cs').pd = (decide (name = name') && (decide (ns = ns') && (decide (rs = rs') && (decide (gr = gr') && (decide (ho = ho') && sameL (cs.map (·.c)) (cs'.map (·.c)))))))) := rfl
  have HX := Lib.hid (two_boxes w (.cells #[.string name, .string ns, .int .i64 rs, .int .i64 gr, .bool ho, .slice a cs.length cap] 41) (.cells #[.string name', .string ns', .int .i64 rs', .int .i64 gr', .bool ho', .slice a' cs'.length cap'] 41))
  have HEF := Lib.hid (eqFunc_any cs cs' a a' cap cap' _ (h.row.move HX.out.2.2.1) (h2.row.move HX.out.2.2.1) (fun m hm => (h.ins m hm).move HX.out.2.2.1) (fun m hm => (h2.ins m hm).move HX.out.2.2.1) hl.len hl2.len hl.cs hl2.cs)
  have HF := Lib.hid HX.out.2.2.1
  clear HX
  dsimp only [PM.val] at *
  clear h h2 hl hl2
  generalize sameP (PM.mk name ns rs gr ho a cap cs).pd (PM.mk name' ns' rs' gr' ho' a' cap' cs').pd = R at *
  generalize sameL (cs.map (·.c)) (cs'.map (·.c)) = SL at *
  generalize cs.length = n at *
  generalize cs'.length = n' at *
  by_cases hname : name = name'
  case neg =>
    have HR : Hid (R = false) := by rw [Hid, HP.out, decide_eq_false hname]; simp
    have e0 := tl_ne hname
    clear HEF HP
    go_enter Tryz.func57, Tryz.ntmps57
    go_wp2
    go_ret
    exact ⟨ret_bool HR.out.symm, HF.out⟩
  subst hname
  by_cases hns : ns = ns'
  case neg =>
    have HR : Hid (R = false) := by rw [Hid, HP.out, decide_eq_false hns]; simp
    have e0 := tl_ne hns
    clear HEF HP
    go_enter Tryz.func57, Tryz.ntmps57
    go_wp2
    go_ret
    exact ⟨ret_bool HR.out.symm, HF.out⟩
  subst hns
  by_cases hrs : rs = rs'
  case neg =>
    have HR : Hid (R = false) := by rw [Hid, HP.out, decide_eq_false hrs]; simp
    have e0 : (rs == rs') = false := by rw [beq_eq_false_iff_ne]; exact hrs
    clear HEF HP
    go_enter Tryz.func57, Tryz.ntmps57
    go_wp2
    go_ret
    exact ⟨ret_bool HR.out.symm, HF.out⟩
  subst hrs
  by_cases hgr : gr = gr'
  case neg =>
    have HR : Hid (R = false) := by rw [Hid, HP.out, decide_eq_false hgr]; simp
    have e0 : (gr == gr') = false := by rw [beq_eq_false_iff_ne]; exact hgr
    clear HEF HP
    go_enter Tryz.func57, Tryz.ntmps57
    go_wp2
    go_ret
    exact ⟨ret_bool HR.out.symm, HF.out⟩
  subst hgr
  by_cases hho : ho = ho'
  case neg =>
    have HR : Hid (R = false) := by rw [Hid, HP.out, decide_eq_false hho]; simp
    have e0 : (ho == ho') = false := by rw [beq_eq_false_iff_ne]; exact hho
    clear HEF HP
    go_enter Tryz.func57, Tryz.ntmps57
    go_wp2
    go_ret
    exact ⟨ret_bool HR.out.symm, HF.out⟩
  subst hho
  have HR : Hid (R = SL) := by rw [Hid, HP.out]; simp
  clear HP
  go_enter Tryz.func57, Tryz.ntmps57
  go_wp2_with (fail)
  refine HEF.out.mono ?_
  rintro e W1 ⟨rfl, hf⟩
  have hf := Lib.hid (HF.out.trans hf)
  go_wp2
  go_ret
  exact ⟨ret_bool HR.out.symm, hf.out⟩
end Go.Proofs.YtldncgelghcjeaaGreatDoor
namespace Go.Proofs.YtldncgelghcjeaaGreatDoor
open Go.ChangeShapes Go.WideShapes Go.ChangeAt Go.RowKit
attribute [local go_sem ↓] Go.wp_at_zero Go.wp_at_succ

/-- Does code begin with this region? -/
def startsB (n : Nat) : Code → Bool
  | .region k _ _ => k == n
  | .seq a _ => startsB n a
  | _ => false
/-- The code from a region on, to the end of its sequence. -/
def codeAt (n : Nat) : Code → Option Code
  | .seq a b => if startsB n a = true then some (.seq a b) else (match codeAt n a with | some x => some x | none => codeAt n b)
  | .cond _ a b => (match codeAt n a with | some x => some x | none => codeAt n b)
  | .block _ a => codeAt n a
  | .loop a => codeAt n a
  | _ => none
theorem tl_yes {x y : ByteArray} (h : x = y) : (x.toList == y.toList) = true := by subst h; simp
theorem rows_snoc {α : Type} {l m : List α} {j : Nat} (h : l[j]? = m[j]?) (k : ∀ i, i < j → l[i]? = m[i]?) : ∀ i, i < j + 1 → l[i]? = m[i]? := fun i hi => by
  rcases Nat.lt_or_ge i j with h3 | h3
  · exact k i h3
  · obtain rfl : i = j := by omega
    exact h
theorem rows_all {α : Type} {l m : List α} (h : l.length = m.length) (k : ∀ i, i < l.length → l[i]? = m[i]?) : l = m := by
  apply List.ext_getElem?
  intro i
  rcases Nat.lt_or_ge i l.length with h3 | h3
  · exact k i h3
  · rw [List.getElem?_eq_none h3, List.getElem?_eq_none (by omega)]
set_option maxRecDepth 100000 in
set_option maxHeartbeats 40000000 in
theorem same_tail (cd : Code) (hcd : Tryz.f18.body.bind (codeAt 7) = some cd) (Q : Exit → Act → World → Prop) (R : Bool) (w W1 : World) (zx zy : Nat) (s0 s1 s0' s1' : ByteArray) (lc lc' : List ByteArray) (lp lp' : List (Int × Int)) (le le' : List (ByteArray × ByteArray)) (n4 n5 n4' n5' : Int) (ca pa ea ca' pa' ea' : Option Addr) (cc pc ec cc' pc' ec' : Nat)
    (t0 t1 t2 t3 t4 t5 t8 t9 t10 t11 t12 t13 t14 t15 t16 t17 t18 t19 t20 t21 t22 t23 t24 t25 t26 t27 t28 t29 t30 t31 t32 t33 t34 t35 t36 t37 t38 t39 t40 t41 t42 t43 t44 t45 t46 t47 t48 t49 t50 t51 t52 t53 t54 t55 t56 t57 t58 t59 t60 t61 t62 t63 t64 t65 t66 t67 t68 t69 t70 t71 t72 t73 t74 t75 t76 t77 t78 t79 t80 t81 t82 t83 t84 t85 t86 t87 t88 t89 t90 t91 t92 t93 t94 t95 t96 t97 t98 t99 t100 t101 t102 t103 t104 t105 t106 t107 t108 t109 t110 t111 t112 t113 t114 t115 t116 t117 t118 t119 t120 t121 t122 t123 t124 t125 t126 t127 t128 t129 t130 t131 t132 t133 t134 t135 t136 t137 t138 t139 t140 t141 t142 t143 t144 t145 t146 t147 t148 t149 t150 t151 t152 t153 t154 t155 t156 : Value)
    (HBX : Hid (∀ W, Fresh W1 W → Box7 115 W zx s0 s1 (.slice ca lc.length cc) (.slice pa lp.length pc) n4 n5 (.slice ea le.length ec))) (HBY : Hid (∀ W, Fresh W1 W → Box7 115 W zy s0' s1' (.slice ca' lc'.length cc') (.slice pa' lp'.length pc') n4' n5' (.slice ea' le'.length ec')))
    (HRC : Hid (RowAt W1 ca (tcells lc))) (HRC' : Hid (RowAt W1 ca' (tcells lc'))) (HRP : Hid (RowAt W1 pa (pcells lp))) (HRP' : Hid (RowAt W1 pa' (pcells lp'))) (HRE : Hid (RowAt W1 ea (ecells le))) (HRE' : Hid (RowAt W1 ea' (ecells le')))
    (HLN : Hid (lc.length ≤ 1048576 ∧ lp.length ≤ 1048576 ∧ le.length ≤ 1048576 ∧ lc'.length ≤ 1048576 ∧ lp'.length ≤ 1048576 ∧ le'.length ≤ 1048576))
    (HF : Hid (Fresh w W1))
    (HNOT : Hid (sameC ⟨s0, s1, lc, lp, n4, n5, le⟩ ⟨s0', s1', lc', lp', n4', n5', le'⟩ = false → R = false))
    (HRET : Hid (∀ a W, bodyPost Tryz.prog Tryz.f18 (fun e w' => e = .returned (.bool R) ∧ Fresh w w') Exit.ret a W → Q Exit.ret a W))
    (HNXT : Hid (sameC ⟨s0, s1, lc, lp, n4, n5, le⟩ ⟨s0', s1', lc', lp', n4', n5', le'⟩ = true → ∀ W, Fresh W1 W → ∀ y4 y8 y9 y69 y70 y71 y72 y73 y74 y75 y76 y77 y78 y79 y80 y81 y82 y83 y84 y85 y86 y87 y88 y89 y90 y91 y92 y93 y94 y95 y96 y97 y98 y99 y100 y101 y102 y103 y104 y105 y106 y107 y108 y109 y110 y111 y112 y113 y114 y115 y116 y117 y118 y119 y120 y121 y122 y123 y124 y125 y126 y127 y128 y129 y130 y131 y132 y133 y134 y135 y136 y137 y138 y139 y140 y141 y142 y143 y144 y145 y146 y147 y148 y149 y150 y151 y152 y153 y154 y155 y156 : Value, Q Exit.normal { tmps := #[t0, t1, t2, t3, y4, t5, .pointer (some ⟨zx, 0, none⟩), .pointer (some ⟨zy, 0, none⟩), y8, y9, t10, t11, t12, t13, t14, t15, t16, t17, t18, t19, t20, t21, t22, t23, t24, t25, t26, t27, t28, t29, t30, t31, t32, t33, t34, t35, t36, t37, t38, t39, t40, t41, t42, t43, t44, t45, t46, t47, t48, t49, t50, t51, t52, t53, t54, t55, t56, t57, t58, t59, t60, t61, t62, t63, t64, t65, t66, t67, t68, y69, y70, y71, y72, y73, y74, y75, y76, y77, y78, y79, y80, y81, y82, y83, y84, y85, y86, y87, y88, y89, y90, y91, y92, y93, y94, y95, y96, y97, y98, y99, y100, y101, y102, y103, y104, y105, y106, y107, y108, y109, y110, y111, y112, y113, y114, y115, y116, y117, y118, y119, y120, y121, y122, y123, y124, y125, y126, y127, y128, y129, y130, y131, y132, y133, y134, y135, y136, y137, y138, y139, y140, y141, y142, y143, y144, y145, y146, y147, y148, y149, y150, y151, y152, y153, y154, y155, y156], defers := [] } W)) :
    Code.wp Tryz.prog cd Q { tmps := #[t0, t1, t2, t3, t4, t5, .pointer (some ⟨zx, 0, none⟩), .pointer (some ⟨zy, 0, none⟩), t8, t9, t10, t11, t12, t13, t14, t15, t16, t17, t18, t19, t20, t21, t22, t23, t24, t25, t26, t27, t28, t29, t30, t31, t32, t33, t34, t35, t36, t37, t38, t39, t40, t41, t42, t43, t44, t45, t46, t47, t48, t49, t50, t51, t52, t53, t54, t55, t56, t57, t58, t59, t60, t61, t62, t63, t64, t65, t66, t67, t68, t69, t70, t71, t72, t73, t74, t75, t76, t77, t78, t79, t80, t81, t82, t83, t84, t85, t86, t87, t88, t89, t90, t91, t92, t93, t94, t95, t96, t97, t98, t99, t100, t101, t102, t103, t104, t105, t106, t107, t108, t109, t110, t111, t112, t113, t114, t115, t116, t117, t118, t119, t120, t121, t122, t123, t124, t125, t126, t127, t128, t129, t130, t131, t132, t133, t134, t135, t136, t137, t138, t139, t140, t141, t142, t143, t144, t145, t146, t147, t148, t149, t150, t151, t152, t153, t154, t155, t156], defers := [] } W1 := by
  have HSC : Hid (sameC ⟨s0, s1, lc, lp, n4, n5, le⟩ ⟨s0', s1', lc', lp', n4', n5', le'⟩ = (decide (s0 = s0') && (decide (s1 = s1') && (decide (lc = lc') && (decide (lp = lp') && (decide (n4 = n4') && (decide (n5 = n5') && decide (le = le')))))))) := rfl
  generalize sameC ⟨s0, s1, lc, lp, n4, n5, le⟩ ⟨s0', s1', lc', lp', n4', n5', le'⟩ = SC at *
  obtain rfl : cd = _ := Option.some.inj (hcd.symm.trans (show Tryz.f18.body.bind (codeAt 7) = some _ from rfl))
  clear hcd
  obtain ⟨⟨c0, c1, c2, c3, c4, c5, c6⟩, _⟩ := (HBX.out W1 (Fresh.refl _)).cells
  obtain ⟨⟨d0, d1, d2, d3, d4, d5, d6⟩, _⟩ := (HBY.out W1 (Fresh.refl _)).cells
  by_cases h0 : s0 = s0'
  case neg =>
    have HR : Hid (R = false) := HNOT.out (by rw [HSC.out, decide_eq_false h0]; simp)
    have e0 := tl_ne h0
    have HG := Lib.hid (fun (a : Act) (W : World) => HRET.out a W)
    clear HNXT HNOT HSC HRC HRC' HRP HRP' HRE HRE' HBX HBY
    go_wp2
    all_goals try (exfalso; omega)
    refine HRET.out _ _ ?_
    go_ret
    exact ⟨ret_bool HR.out.symm, HF.out⟩
  have e0 := tl_yes h0
  by_cases h1 : s1 = s1'
  case neg =>
    have HR : Hid (R = false) := HNOT.out (by rw [HSC.out, decide_eq_false h1]; simp)
    have e1 := tl_ne h1
    have HG := Lib.hid (fun (a : Act) (W : World) => HRET.out a W)
    clear HNXT HNOT HSC HRC HRC' HRP HRP' HRE HRE' HBX HBY
    go_wp2
    all_goals try (exfalso; omega)
    refine HRET.out _ _ ?_
    go_ret
    exact ⟨ret_bool HR.out.symm, HF.out⟩
  have e1 := tl_yes h1
  by_cases h4 : n4 = n4'
  case neg =>
    have HR : Hid (R = false) := HNOT.out (by rw [HSC.out, decide_eq_false h4]; simp)
    have e4 : (n4 == n4') = false := by rw [beq_eq_false_iff_ne]; exact h4
    have HG := Lib.hid (fun (a : Act) (W : World) => HRET.out a W)
    clear HNXT HNOT HSC HRC HRC' HRP HRP' HRE HRE' HBX HBY
    go_wp2
    all_goals try (exfalso; omega)
    refine HRET.out _ _ ?_
    go_ret
    exact ⟨ret_bool HR.out.symm, HF.out⟩
  have e4 : (n4 == n4') = true := by rw [h4]; simp
  by_cases h5 : n5 = n5'
  case neg =>
    have HR : Hid (R = false) := HNOT.out (by rw [HSC.out, decide_eq_false h5]; simp)
    have e5 : (n5 == n5') = false := by rw [beq_eq_false_iff_ne]; exact h5
    have HG := Lib.hid (fun (a : Act) (W : World) => HRET.out a W)
    clear HNXT HNOT HSC HRC HRC' HRP HRP' HRE HRE' HBX HBY
    go_wp2
    all_goals try (exfalso; omega)
    refine HRET.out _ _ ?_
    go_ret
    exact ⟨ret_bool HR.out.symm, HF.out⟩
  have e5 : (n5 == n5') = true := by rw [h5]; simp
  have HSC2 : Hid (SC = (decide (lc = lc') && (decide (lp = lp') && decide (le = le')))) := by
    rw [Hid, HSC.out, decide_eq_true h0, decide_eq_true h1, decide_eq_true h4, decide_eq_true h5]; simp
  have HTX := Lib.hid (rtexts_any lc lc' ca ca' cc cc' W1 HRC.out HRC'.out (by have := HLN.out; omega) (by have := HLN.out; omega))
  clear h0 h1 HSC
  have H4 := Lib.hid h4
  have H5 := Lib.hid h5
  clear h4 h5
  go_wp2_with (fail)
  all_goals try (exfalso; omega)
  refine HTX.out.mono ?_
  rintro e W2 ⟨rfl, hf⟩
  have HF2 := Lib.hid hf
  clear hf c0 c1 c2 c3 c4 c5 c6 d0 d1 d2 d3 d4 d5 d6 HTX
  obtain ⟨⟨c0, c1, c2, c3, c4, c5, c6⟩, _⟩ := (HBX.out W2 HF2.out).cells
  obtain ⟨⟨d0, d1, d2, d3, d4, d5, d6⟩, _⟩ := (HBY.out W2 HF2.out).cells
  clear c0 c1 c2 c4 c5 d0 d1 d2 d4 d5
  by_cases hcm : lc = lc'
  case neg =>
    have HR : Hid (R = false) := HNOT.out (by rw [HSC2.out, decide_eq_false hcm]; simp)
    rw [decide_eq_false hcm]
    clear HNXT HNOT HSC2 HRC HRC' HRP HRP' HRE HRE' HBX HBY hcm
    go_wp2
    all_goals try (exfalso; omega)
    refine HRET.out _ _ ?_
    go_ret
    exact ⟨ret_bool HR.out.symm, HF.out.trans HF2.out⟩
  rw [decide_eq_true hcm]
  have HSC3 : Hid (SC = (decide (lp = lp') && decide (le = le'))) := by rw [Hid, HSC2.out, decide_eq_true hcm, Bool.true_and]
  clear HSC2 hcm HRC HRC'
  by_cases hpl : lp.length = lp'.length
  case neg =>
    have HR : Hid (R = false) := HNOT.out (by rw [HSC3.out, decide_eq_false (fun e => hpl (by rw [e]))]; simp)
    have e6 : ((lp.length : Int) == (lp'.length : Int)) = false := by rw [beq_eq_false_iff_ne]; omega
    clear HNXT HNOT HSC3 HRP HRP' HRE HRE' HBX HBY
    go_wp2
    all_goals try (exfalso; omega)
    refine HRET.out _ _ ?_
    go_ret
    exact ⟨ret_bool HR.out.symm, HF.out.trans HF2.out⟩
  have HPL := Lib.hid hpl
  rw [← hpl] at d3
  clear hpl
  by_cases hel : le.length = le'.length
  case neg =>
    have HR : Hid (R = false) := HNOT.out (by rw [HSC3.out, decide_eq_false (fun e : le = le' => hel (by rw [e]))]; simp)
    have e7 : ((le.length : Int) == (le'.length : Int)) = false := by rw [beq_eq_false_iff_ne]; omega
    clear HNXT HNOT HSC3 HRP HRP' HRE HRE' HBX HBY
    go_wp2
    all_goals try (exfalso; omega)
    refine HRET.out _ _ ?_
    go_ret
    exact ⟨ret_bool HR.out.symm, HF.out.trans HF2.out⟩
  have HEL := Lib.hid hel
  rw [← hel] at d6
  clear hel
  go_wp2
  all_goals try (exfalso; omega)
  clear c3 c6 d3 d6
  have hl2 := HLN.out.2.1
  have hl3 := HLN.out.2.2.1
  go_loopw [8] (fun a8 wq => ∃ (j : Nat), a8 = .int .i64 (j : Int) ∧ j ≤ lp.length ∧ Hid (∀ i, i < j → lp[i]? = lp'[i]?) ∧ Hid (Fresh W2 wq)) (fun a8 _ => lp.length - (intOf a8).toNat)
  case atStart => exact ⟨0, rfl, Nat.zero_le _, fun _ h => absurd h (Nat.not_lt_zero _), Fresh.refl _⟩
  case round =>
    obtain ⟨j, rfl, hj, HEQ, HFq⟩ := hrel
    have HF3 := Lib.hid (HF2.out.trans HFq.out)
    obtain ⟨⟨_, _, _, c3, _, _, c6⟩, _⟩ := (HBX.out _ HF3.out).cells
    obtain ⟨⟨_, _, _, d3, _, _, d6⟩, _⟩ := (HBY.out _ HF3.out).cells
    by_cases hlt : j < lp.length
    · have hlt' : j < lp'.length := by rw [← HPL.out]; exact hlt
      obtain ⟨g2, o2, e2, hc2⟩ := prow_form (HRP.out.move HF3.out) hlt
      obtain ⟨g3, o3, e3, hc3⟩ := prow_form (HRP'.out.move HF3.out) hlt'
      obtain ⟨x1, x2⟩ := hc2 j hlt
      obtain ⟨x3, x4⟩ := hc3 j hlt'
      rw [e2] at c3
      rw [e3] at d3
      clear hc2 hc3 e2 e3 c6 d6
      have i4 : (0 : Int) ≤ (j : Int) := by omega
      have i5 : (j : Int) < (lp.length : Int) := by omega
      have i6 : (j : Int) < (lp'.length : Int) := by omega
      have HGE : Hid (lp[j]? = some lp[j] ∧ lp'[j]? = some lp'[j]) := ⟨List.getElem?_eq_getElem hlt, List.getElem?_eq_getElem hlt'⟩
      generalize lp[j] = u at *
      generalize lp'[j] = v at *
      obtain ⟨un, up⟩ := u
      obtain ⟨vn, vp⟩ := v
      dsimp only at x1 x2 x3 x4
      by_cases hn1 : un = vn
      case neg =>
        have HR : Hid (R = false) := HNOT.out (by
          rw [HSC3.out, decide_eq_false (fun e : lp = lp' => hn1 (by
            have := HGE.out
            rw [e] at this
            have := this.1.symm.trans this.2
            simp only [Option.some.injEq, Prod.mk.injEq] at this
            exact this.1))]; simp)
        have e8 : (un == vn) = false := by rw [beq_eq_false_iff_ne]; exact hn1
        clear HNXT HNOT HSC3 HGE HEQ
        go_wp2_with (fail)
        go_quiet (fail)
        go_wp2
        all_goals try (exfalso; omega)
        refine HRET.out _ _ ?_
        go_ret
        exact ⟨ret_bool HR.out.symm, (HF.out.trans HF3.out).trans (fresh_drewN _ _)⟩
      by_cases hp1 : up = vp
      case neg =>
        have HR : Hid (R = false) := HNOT.out (by
          rw [HSC3.out, decide_eq_false (fun e : lp = lp' => hp1 (by
            have := HGE.out
            rw [e] at this
            have := this.1.symm.trans this.2
            simp only [Option.some.injEq, Prod.mk.injEq] at this
            exact this.2))]; simp)
        have e8 : (un == vn) = true := by rw [hn1]; simp
        have e9 : (up == vp) = false := by rw [beq_eq_false_iff_ne]; exact hp1
        clear HNXT HNOT HSC3 HGE HEQ hn1
        go_wp2_with (fail)
        go_quiet (fail)
        go_wp2
        all_goals try (exfalso; omega)
        refine HRET.out _ _ ?_
        go_ret
        exact ⟨ret_bool HR.out.symm, (HF.out.trans HF3.out).trans (fresh_drewN _ _)⟩
      have HY := Lib.hid (rows_snoc (HGE.out.1.trans ((by rw [hn1, hp1] : some (un, up) = some (vn, vp)).trans HGE.out.2.symm)) HEQ.out)
      have e8 : (un == vn) = true := by rw [hn1]; simp
      have e9 : (up == vp) = true := by rw [hp1]; simp
      clear HGE HEQ hn1 hp1
      go_wp2_with (fail)
      go_quiet (fail)
      go_wp2
      all_goals try (exfalso; omega)
      go_roundw
      case rel => exact ⟨j + 1, by simp, by omega, HY.out, HFq.out.trans (fresh_drewN _ _)⟩
      case measure => simp [intOf]; omega
    · obtain rfl : j = lp.length := by omega
      have HSC4 : Hid (SC = decide (le = le')) := by rw [Hid, HSC3.out, decide_eq_true (rows_all HPL.out HEQ.out), Bool.true_and]
      clear HEQ HSC3
      go_wp2
      all_goals try (exfalso; omega)
      clear c3 c6 d3 d6 HRP HRP'
      obtain ⟨wo, hwo⟩ : ∃ wo, wo = wr := ⟨_, rfl⟩
      subst hwo
      go_loopw [9] (fun a9 wq => ∃ (j : Nat), a9 = .int .i64 (j : Int) ∧ j ≤ le.length ∧ Hid (∀ i, i < j → le[i]? = le'[i]?) ∧ Hid (Fresh wo wq)) (fun a9 _ => le.length - (intOf a9).toNat)
      case atStart => exact ⟨0, rfl, Nat.zero_le _, fun _ h => absurd h (Nat.not_lt_zero _), Fresh.refl _⟩
      case round =>
        obtain ⟨j, rfl, hj, HEQ, HFq⟩ := hrel
        have HF4 := Lib.hid (HF3.out.trans HFq.out)
        obtain ⟨⟨_, _, _, c3, _, _, c6⟩, _⟩ := (HBX.out _ HF4.out).cells
        obtain ⟨⟨_, _, _, d3, _, _, d6⟩, _⟩ := (HBY.out _ HF4.out).cells
        clear c3 d3
        by_cases hlt : j < le.length
        · have hlt' : j < le'.length := by rw [← HEL.out]; exact hlt
          obtain ⟨g2, o2, e2, hc2⟩ := erow_form (HRE.out.move HF4.out) hlt
          obtain ⟨g3, o3, e3, hc3⟩ := erow_form (HRE'.out.move HF4.out) hlt'
          obtain ⟨x1, x2⟩ := hc2 j hlt
          obtain ⟨x3, x4⟩ := hc3 j hlt'
          rw [e2] at c6
          rw [e3] at d6
          clear hc2 hc3 e2 e3
          have i4 : (0 : Int) ≤ (j : Int) := by omega
          have i5 : (j : Int) < (le.length : Int) := by omega
          have i6 : (j : Int) < (le'.length : Int) := by omega
          have HGE : Hid (le[j]? = some le[j] ∧ le'[j]? = some le'[j]) := ⟨List.getElem?_eq_getElem hlt, List.getElem?_eq_getElem hlt'⟩
          generalize le[j] = u at *
          generalize le'[j] = v at *
          obtain ⟨un, up⟩ := u
          obtain ⟨vn, vp⟩ := v
          dsimp only at x1 x2 x3 x4
          by_cases hn1 : un = vn
          case neg =>
            have HR : Hid (R = false) := HNOT.out (by
              rw [HSC4.out, decide_eq_false_iff_not]
              intro e
              have := HGE.out
              rw [e] at this
              have := this.1.symm.trans this.2
              simp only [Option.some.injEq, Prod.mk.injEq] at this
              exact hn1 this.1)
            have e8 := tl_ne hn1
            clear HNXT HNOT HSC4 HGE HEQ
            go_wp2_with (fail)
            go_quiet (fail)
            go_wp2
            all_goals try (exfalso; omega)
            refine HRET.out _ _ ?_
            go_ret
            exact ⟨ret_bool HR.out.symm, (HF.out.trans HF4.out).trans (fresh_drewN _ _)⟩
          by_cases hp1 : up = vp
          case neg =>
            have HR : Hid (R = false) := HNOT.out (by
              rw [HSC4.out, decide_eq_false_iff_not]
              intro e
              have := HGE.out
              rw [e] at this
              have := this.1.symm.trans this.2
              simp only [Option.some.injEq, Prod.mk.injEq] at this
              exact hp1 this.2)
            have e8 := tl_yes hn1
            have e9 := tl_ne hp1
            clear HNXT HNOT HSC4 HGE HEQ hn1
            go_wp2_with (fail)
            go_quiet (fail)
            go_wp2
            all_goals try (exfalso; omega)
            refine HRET.out _ _ ?_
            go_ret
            exact ⟨ret_bool HR.out.symm, (HF.out.trans HF4.out).trans (fresh_drewN _ _)⟩
          have HY := Lib.hid (rows_snoc (HGE.out.1.trans ((by rw [hn1, hp1] : some (un, up) = some (vn, vp)).trans HGE.out.2.symm)) HEQ.out)
          have e8 := tl_yes hn1
          have e9 := tl_yes hp1
          clear HGE HEQ hn1 hp1
          go_wp2_with (fail)
          go_quiet (fail)
          go_wp2
          all_goals try (exfalso; omega)
          go_roundw
          case rel => exact ⟨j + 1, by simp, by omega, HY.out, HFq.out.trans (fresh_drewN _ _)⟩
          case measure => simp [intOf]; omega
        · obtain rfl : j = le.length := by omega
          have HSC5 : Hid (SC = true) := by rw [Hid, HSC4.out, decide_eq_true_eq]; exact rows_all HEL.out HEQ.out
          have HN2 := Lib.hid (HNXT.out HSC5.out _ HF4.out)
          clear HEQ HSC4 HNXT HNOT
          go_wp2
          all_goals try (exfalso; omega)
          exact HN2.out _ _ _ _ _ _ _ _ _ _ _ _ _ _ _ _ _ _ _ _ _ _ _ _ _ _ _ _ _ _ _ _ _ _ _ _ _ _ _ _ _ _ _ _ _ _ _ _ _ _ _ _ _ _ _ _ _ _ _ _ _ _ _ _ _ _ _ _ _ _ _ _ _ _ _ _ _ _ _ _ _ _ _ _ _ _ _ _ _ _ _
end Go.Proofs.YtldncgelghcjeaaGreatDoor
namespace Go.Proofs.YtldncgelghcjeaaGreatDoor
open Go.ChangeShapes Go.WideShapes Go.ChangeAt Go.RowKit
attribute [local go_sem ↓] Go.wp_at_zero Go.wp_at_succ

theorem two_new (w : World) (o p : Obj) : (((w.alloc o).alloc p).drew).heap[w.heap.size]? = some o ∧ (((w.alloc o).alloc p).drew).heap[w.heap.size + 1]? = some p :=
  ⟨at_alloc (at_new w o), by have := at_new (w.alloc o) p; rw [World.size_alloc] at this; exact this⟩
set_option maxRecDepth 100000 in
set_option maxHeartbeats 40000000 in
theorem rsame_any (p q : PM) (w : World) (h : p.At w) (h2 : q.At w) (hl : p.Low) (hl2 : q.Low) :
    Calls Tryz.prog 18 #[p.val, q.val] w fun e w' => e = .returned (.bool (sameP p.pd q.pd)) ∧ Fresh w w' := by
  obtain ⟨name, ns, rs, gr, ho, a, cap, cs⟩ := p
  obtain ⟨name', ns', rs', gr', ho', a', cap', cs'⟩ := q
  have HROW := Lib.hid h.row
  have HINS := Lib.hid h.ins
  have HROW' := Lib.hid h2.row
  have HINS' := Lib.hid h2.ins
  have d1 : cs.length ≤ 1048576 := hl.len
  have d2 : cs'.length ≤ 1048576 := hl2.len
  have HLW := Lib.hid hl.cs
  have HLW' := Lib.hid hl2.cs
  have HP : Hid (sameP (PM.mk name ns rs gr ho a cap cs).pd (PM.mk name' ns' rs' gr' ho' a' cap' cs').pd = (decide (name = name') && (decide (ns = ns') && (decide (rs = rs') && (decide (gr = gr') && (decide (ho = ho') && sameL (cs.map (·.c)) (cs'.map (·.c)))))))) := rfl
  dsimp only [PM.val] at *
  clear h h2 hl hl2
  generalize sameP (PM.mk name ns rs gr ho a cap cs).pd (PM.mk name' ns' rs' gr' ho' a' cap' cs').pd = R at *
  have HF0 := Lib.hid (((Fresh.refl w).alloc (.cells #[.string name, .string ns, .int .i64 rs, .int .i64 gr, .bool ho, .slice a cs.length cap] 46)).alloc (.cells #[.string name', .string ns', .int .i64 rs', .int .i64 gr', .bool ho', .slice a' cs'.length cap'] 46))
  have HA1 : Hid (((w.alloc (.cells #[.string name, .string ns, .int .i64 rs, .int .i64 gr, .bool ho, .slice a cs.length cap] 46)).alloc (.cells #[.string name', .string ns', .int .i64 rs', .int .i64 gr', .bool ho', .slice a' cs'.length cap'] 46)).heap[w.heap.size]? = some (.cells #[.string name, .string ns, .int .i64 rs, .int .i64 gr, .bool ho, .slice a cs.length cap] 46)) := at_alloc (at_new _ _)
  have HA2 : Hid (((w.alloc (.cells #[.string name, .string ns, .int .i64 rs, .int .i64 gr, .bool ho, .slice a cs.length cap] 46)).alloc (.cells #[.string name', .string ns', .int .i64 rs', .int .i64 gr', .bool ho', .slice a' cs'.length cap'] 46)).heap[w.heap.size + 1]? = some (.cells #[.string name', .string ns', .int .i64 rs', .int .i64 gr', .bool ho', .slice a' cs'.length cap'] 46)) := by
    have := at_new (w.alloc (.cells #[.string name, .string ns, .int .i64 rs, .int .i64 gr, .bool ho, .slice a cs.length cap] 46)) (.cells #[.string name', .string ns', .int .i64 rs', .int .i64 gr', .bool ho', .slice a' cs'.length cap'] 46)
    rw [World.size_alloc] at this
    exact this
  by_cases hname : name = name'
  case neg =>
    have HR : Hid (R = false) := by rw [Hid, HP.out, decide_eq_false hname]; simp
    have e0 := tl_ne hname
    go_enter Tryz.func18, Tryz.ntmps18
    go_wp2
    all_goals try (exfalso; omega)
    go_ret
    exact ⟨ret_bool HR.out.symm, HF0.out⟩
  subst hname
  by_cases hns : ns = ns'
  case neg =>
    have HR : Hid (R = false) := by rw [Hid, HP.out, decide_eq_false hns]; simp
    have e0 := tl_ne hns
    go_enter Tryz.func18, Tryz.ntmps18
    go_wp2
    all_goals try (exfalso; omega)
    go_ret
    exact ⟨ret_bool HR.out.symm, HF0.out⟩
  subst hns
  by_cases hrs : rs = rs'
  case neg =>
    have HR : Hid (R = false) := by rw [Hid, HP.out, decide_eq_false hrs]; simp
    have e0 : (rs == rs') = false := by rw [beq_eq_false_iff_ne]; exact hrs
    go_enter Tryz.func18, Tryz.ntmps18
    go_wp2
    all_goals try (exfalso; omega)
    go_ret
    exact ⟨ret_bool HR.out.symm, HF0.out⟩
  subst hrs
  by_cases hgr : gr = gr'
  case neg =>
    have HR : Hid (R = false) := by rw [Hid, HP.out, decide_eq_false hgr]; simp
    have e0 : (gr == gr') = false := by rw [beq_eq_false_iff_ne]; exact hgr
    go_enter Tryz.func18, Tryz.ntmps18
    go_wp2
    all_goals try (exfalso; omega)
    go_ret
    exact ⟨ret_bool HR.out.symm, HF0.out⟩
  subst hgr
  by_cases hho : ho = ho'
  case neg =>
    have HR : Hid (R = false) := by rw [Hid, HP.out, decide_eq_false hho]; simp
    have e0 : (ho == ho') = false := by rw [beq_eq_false_iff_ne]; exact hho
    go_enter Tryz.func18, Tryz.ntmps18
    go_wp2
    all_goals try (exfalso; omega)
    go_ret
    exact ⟨ret_bool HR.out.symm, HF0.out⟩
  subst hho
  by_cases hlen : cs.length = cs'.length
  case neg =>
    have HR : Hid (R = false) := by rw [Hid, HP.out, sameL_len _ _ (by simpa using hlen)]; simp
    have e0 : ((cs.length : Int) == (cs'.length : Int)) = false := by rw [beq_eq_false_iff_ne]; omega
    go_enter Tryz.func18, Tryz.ntmps18
    go_wp2
    all_goals try (exfalso; omega)
    go_ret
    exact ⟨ret_bool HR.out.symm, HF0.out⟩
  have HR0 : Hid (R = sameL (cs.map (·.c)) (cs'.map (·.c))) := by rw [Hid, HP.out]; simp
  clear HP
  have HN2 : Hid (cs'.length = cs.length) := hlen.symm
  have hd2 := HN2.out
  rw [hd2] at HA1 HA2 HF0 ⊢
  clear hd2 hlen d2
  have HN1 : Hid (cs.length = cs.length) := rfl
  generalize hn : cs.length = n at *
  have HNN := Lib.hid hn
  clear hn HN1
  go_enter Tryz.func18, Tryz.ntmps18
  go_wp2
  all_goals try (exfalso; omega)
  generalize (w.alloc (.cells #[.string name, .string ns, .int .i64 rs, .int .i64 gr, .bool ho, .slice a n cap] 46)).alloc (.cells #[.string name, .string ns, .int .i64 rs, .int .i64 gr, .bool ho, .slice a' n cap'] 46) = W0 at *
  obtain ⟨b, hb⟩ : ∃ b, b = w.heap.size := ⟨_, rfl⟩
  rw [← hb] at HA1 HA2 ⊢
  clear hb
  go_loopw [5] (fun a5 wr => ∃ (k : Nat), a5 = .int .i64 (k : Int) ∧ k ≤ n ∧ Hid (sameL (cs.map (·.c)) (cs'.map (·.c)) = sameL ((cs.drop k).map (·.c)) ((cs'.drop k).map (·.c))) ∧ Hid (Fresh W0 wr)) (fun a5 _ => n - (intOf a5).toNat)
  case atStart => exact ⟨0, rfl, Nat.zero_le _, rfl, Fresh.refl _⟩
  case round =>
    obtain ⟨k, rfl, hk, HE, HF⟩ := hrel
    have hp5 := (box6p (HF.out.at HA1.out)).1.2.2.2.2.2
    have hq5 := (box6p (HF.out.at HA2.out)).1.2.2.2.2.2
    by_cases hltn : k < n
    · have hlt : k < cs.length := by rw [HNN.out]; exact hltn
      have hlt' : k < cs'.length := by rw [HN2.out]; exact hltn
      obtain ⟨g, o1, ea, hc⟩ := crow_form ((HROW.out.move HF0.out).move HF.out) hlt
      obtain ⟨g', o1', ea', hc'⟩ := crow_form ((HROW'.out.move HF0.out).move HF.out) hlt'
      obtain ⟨c0, c1, c2, c3, c4, c5, c6⟩ := hc k hlt
      obtain ⟨y0, y1, y2, y3, y4, y5, y6⟩ := hc' k hlt'
      have HST : Hid (sameL (cs.map (·.c)) (cs'.map (·.c)) = (sameC cs[k].c cs'[k].c && sameL ((cs.drop (k + 1)).map (·.c)) ((cs'.drop (k + 1)).map (·.c)))) := HE.out.trans (sameL_drop hlt hlt')
      have HM : Hid (cs[k].In wr) := ((HINS.out _ (List.getElem_mem hlt)).move HF0.out).move HF.out
      have HM' : Hid (cs'[k].In wr) := ((HINS'.out _ (List.getElem_mem hlt')).move HF0.out).move HF.out
      have HLM := Lib.hid (HLW.out _ (List.getElem_mem hlt))
      have HLM' := Lib.hid (HLW'.out _ (List.getElem_mem hlt'))
      rw [ea] at hp5
      rw [ea'] at hq5
      clear hc hc' ea ea'
      generalize cs[k] = m at *
      generalize cs'[k] = m' at *
      have HSC : Hid (sameC m.c m'.c = (decide (m.c.name = m'.c.name) && (decide (m.c.image = m'.c.image) && (decide (m.c.cmd = m'.c.cmd) && (decide (m.c.ports = m'.c.ports) && (decide (m.c.cpu = m'.c.cpu) && (decide (m.c.mem = m'.c.mem) && decide (m.c.env = m'.c.env)))))))) := rfl
      have HRC := Lib.hid HM.out.cmd
      have HRC' := Lib.hid HM'.out.cmd
      have HRP := Lib.hid HM.out.ports
      have HRP' := Lib.hid HM'.out.ports
      have HRE := Lib.hid HM.out.env
      have HRE' := Lib.hid HM'.out.env
      have l1 := HLM.out.lc
      have l2 := HLM.out.lp
      have l3 := HLM.out.le
      have l1' := HLM'.out.lc
      have l2' := HLM'.out.lp
      have l3' := HLM'.out.le
      clear HM HM' HLM HLM'
      generalize sameC m.c m'.c = SC at *
      generalize m.c.name = s0 at *
      generalize m'.c.name = s0' at *
      generalize m.c.image = s1 at *
      generalize m'.c.image = s1' at *
      generalize m.c.cpu = n4 at *
      generalize m'.c.cpu = n4' at *
      generalize m.c.mem = n5 at *
      generalize m'.c.mem = n5' at *
      generalize m.c.cmd = lc at *
      generalize m'.c.cmd = lc' at *
      generalize m.c.ports = lp at *
      generalize m'.c.ports = lp' at *
      generalize m.c.env = le at *
      generalize m'.c.env = le' at *
      generalize m.ca = ca at *
      generalize m'.ca = ca' at *
      generalize m.cc = cc at *
      generalize m'.cc = cc' at *
      generalize m.pa = pa at *
      generalize m'.pa = pa' at *
      generalize m.pc = pc at *
      generalize m'.pc = pc' at *
      generalize m.ea = ea at *
      generalize m'.ea = ea' at *
      generalize m.ec = ec at *
      generalize m'.ec = ec' at *
      have i1 : (0 : Int) ≤ (k : Int) := by omega
      have i2 : (k : Int) < (n : Int) := by omega
      have lt1 : g < wr.heap.size := World.block_lt_of_cell? wr _ c0
      have lt2 : g' < wr.heap.size := World.block_lt_of_cell? wr _ y0
      have lt3 : b < wr.heap.size := World.block_lt_of_cell? wr _ hp5
      have lt4 : b + 1 < wr.heap.size := World.block_lt_of_cell? wr _ hq5
      clear hlt hlt'
      go_wp2_with (fail)
      go_region
      · have HX := Lib.hid (two_new wr (.cells #[.string s0, .string s1, .slice ca lc.length cc, .slice pa lp.length pc, .int .i64 n4, .int .i64 n5, .slice ea le.length ec] 115) (.cells #[.string s0', .string s1', .slice ca' lc'.length cc', .slice pa' lp'.length pc', .int .i64 n4', .int .i64 n5', .slice ea' le'.length ec'] 115))
        have HF1 : Hid (Fresh wr ((wr.alloc (.cells #[.string s0, .string s1, .slice ca lc.length cc, .slice pa lp.length pc, .int .i64 n4, .int .i64 n5, .slice ea le.length ec] 115)).alloc (.cells #[.string s0', .string s1', .slice ca' lc'.length cc', .slice pa' lp'.length pc', .int .i64 n4', .int .i64 n5', .slice ea' le'.length ec'] 115)).drew) := Fresh.drew (((Fresh.refl wr).alloc _).alloc _)
        obtain ⟨HB6, HB7⟩ := HX.out
        clear HX
        generalize ((wr.alloc (.cells #[.string s0, .string s1, .slice ca lc.length cc, .slice pa lp.length pc, .int .i64 n4, .int .i64 n5, .slice ea le.length ec] 115)).alloc (.cells #[.string s0', .string s1', .slice ca' lc'.length cc', .slice pa' lp'.length pc', .int .i64 n4', .int .i64 n5', .slice ea' le'.length ec'] 115)).drew = W1 at *
        generalize wr.heap.size = z at *
        refine (‹∀ (a : Act) (w : World), Code.wp Tryz.prog _ _ a w → _› _ _ ?_)
        refine same_tail _ (by kernel_rfl) _ R w W1 z (z + 1) s0 s1 s0' s1' lc lc' lp lp' le le' n4 n5 n4' n5' ca pa ea ca' pa' ea' cc pc ec cc' pc' ec' _ _ _ _ _ _ _ _ _ _ _ _ _ _ _ _ _ _ _ _ _ _ _ _ _ _ _ _ _ _ _ _ _ _ _ _ _ _ _ _ _ _ _ _ _ _ _ _ _ _ _ _ _ _ _ _ _ _ _ _ _ _ _ _ _ _ _ _ _ _ _ _ _ _ _ _ _ _ _ _ _ _ _ _ _ _ _ _ _ _ _ _ _ _ _ _ _ _ _ _ _ _ _ _ _ _ _ _ _ _ _ _ _ _ _ _ _ _ _ _ _ _ _ _ _ _ _ _ _ _ _ _ _ _ _ _ _ _ _ _ _ _ _ _ _ _ _ _ _ _ _ _ _ _ _ (fun W f => f.at HB6) (fun W f => f.at HB7) (HRC.out.move HF1.out) (HRC'.out.move HF1.out) (HRP.out.move HF1.out) (HRP'.out.move HF1.out) (HRE.out.move HF1.out) (HRE'.out.move HF1.out) ⟨l1, l2, l3, l1', l2', l3'⟩ ((HF0.out.trans HF.out).trans HF1.out) ?_ (fun a W h => h) ?_
        · intro h
          rw [HR0.out, HST.out, HSC.out.trans h]; rfl
        · as_aux_lemma =>
          intro h W hfw j4 j8 j9 j69 j70 j71 j72 j73 j74 j75 j76 j77 j78 j79 j80 j81 j82 j83 j84 j85 j86 j87 j88 j89 j90 j91 j92 j93 j94 j95 j96 j97 j98 j99 j100 j101 j102 j103 j104 j105 j106 j107 j108 j109 j110 j111 j112 j113 j114 j115 j116 j117 j118 j119 j120 j121 j122 j123 j124 j125 j126 j127 j128 j129 j130 j131 j132 j133 j134 j135 j136 j137 j138 j139 j140 j141 j142 j143 j144 j145 j146 j147 j148 j149 j150 j151 j152 j153 j154 j155 j156
          have HN := Lib.hid (HST.out.trans (by rw [HSC.out.trans h, Bool.true_and]))
          have HFN := Lib.hid ((HF.out.trans HF1.out).trans hfw)
          clear c0 c1 c2 c3 c4 c5 c6 y0 y1 y2 y3 y4 y5 y6 hp5 hq5 lt1 lt2 lt3 lt4 HSC HST
          go_wp2
          all_goals try (exfalso; omega)
          go_roundw
          case rel => exact ⟨k + 1, by simp, by omega, HN.out, HFN.out⟩
          case measure => simp [intOf]; omega
      · have HX := Lib.hid (two_new wr (.cells #[.string s0', .string s1', .slice ca' lc'.length cc', .slice pa' lp'.length pc', .int .i64 n4', .int .i64 n5', .slice ea' le'.length ec'] 115) (.cells #[.string s0, .string s1, .slice ca lc.length cc, .slice pa lp.length pc, .int .i64 n4, .int .i64 n5, .slice ea le.length ec] 115))
        have HF1 : Hid (Fresh wr ((wr.alloc (.cells #[.string s0', .string s1', .slice ca' lc'.length cc', .slice pa' lp'.length pc', .int .i64 n4', .int .i64 n5', .slice ea' le'.length ec'] 115)).alloc (.cells #[.string s0, .string s1, .slice ca lc.length cc, .slice pa lp.length pc, .int .i64 n4, .int .i64 n5, .slice ea le.length ec] 115)).drew) := Fresh.drew (((Fresh.refl wr).alloc _).alloc _)
        obtain ⟨HB6, HB7⟩ := HX.out
        clear HX
        generalize ((wr.alloc (.cells #[.string s0', .string s1', .slice ca' lc'.length cc', .slice pa' lp'.length pc', .int .i64 n4', .int .i64 n5', .slice ea' le'.length ec'] 115)).alloc (.cells #[.string s0, .string s1, .slice ca lc.length cc, .slice pa lp.length pc, .int .i64 n4, .int .i64 n5, .slice ea le.length ec] 115)).drew = W1 at *
        generalize wr.heap.size = z at *
        refine (‹∀ (a : Act) (w : World), Code.wp Tryz.prog _ _ a w → _› _ _ ?_)
        refine same_tail _ (by kernel_rfl) _ R w W1 (z + 1) z s0 s1 s0' s1' lc lc' lp lp' le le' n4 n5 n4' n5' ca pa ea ca' pa' ea' cc pc ec cc' pc' ec' _ _ _ _ _ _ _ _ _ _ _ _ _ _ _ _ _ _ _ _ _ _ _ _ _ _ _ _ _ _ _ _ _ _ _ _ _ _ _ _ _ _ _ _ _ _ _ _ _ _ _ _ _ _ _ _ _ _ _ _ _ _ _ _ _ _ _ _ _ _ _ _ _ _ _ _ _ _ _ _ _ _ _ _ _ _ _ _ _ _ _ _ _ _ _ _ _ _ _ _ _ _ _ _ _ _ _ _ _ _ _ _ _ _ _ _ _ _ _ _ _ _ _ _ _ _ _ _ _ _ _ _ _ _ _ _ _ _ _ _ _ _ _ _ _ _ _ _ _ _ _ _ _ _ _ (fun W f => f.at HB7) (fun W f => f.at HB6) (HRC.out.move HF1.out) (HRC'.out.move HF1.out) (HRP.out.move HF1.out) (HRP'.out.move HF1.out) (HRE.out.move HF1.out) (HRE'.out.move HF1.out) ⟨l1, l2, l3, l1', l2', l3'⟩ ((HF0.out.trans HF.out).trans HF1.out) ?_ (fun a W h => h) ?_
        · intro h
          rw [HR0.out, HST.out, HSC.out.trans h]; rfl
        · as_aux_lemma =>
          intro h W hfw j4 j8 j9 j69 j70 j71 j72 j73 j74 j75 j76 j77 j78 j79 j80 j81 j82 j83 j84 j85 j86 j87 j88 j89 j90 j91 j92 j93 j94 j95 j96 j97 j98 j99 j100 j101 j102 j103 j104 j105 j106 j107 j108 j109 j110 j111 j112 j113 j114 j115 j116 j117 j118 j119 j120 j121 j122 j123 j124 j125 j126 j127 j128 j129 j130 j131 j132 j133 j134 j135 j136 j137 j138 j139 j140 j141 j142 j143 j144 j145 j146 j147 j148 j149 j150 j151 j152 j153 j154 j155 j156
          have HN := Lib.hid (HST.out.trans (by rw [HSC.out.trans h, Bool.true_and]))
          have HFN := Lib.hid ((HF.out.trans HF1.out).trans hfw)
          clear c0 c1 c2 c3 c4 c5 c6 y0 y1 y2 y3 y4 y5 y6 hp5 hq5 lt1 lt2 lt3 lt4 HSC HST
          go_wp2
          all_goals try (exfalso; omega)
          go_roundw
          case rel => exact ⟨k + 1, by simp, by omega, HN.out, HFN.out⟩
          case measure => simp [intOf]; omega
    · obtain rfl : k = n := by omega
      have HR : Hid (R = true) := by rw [Hid, HR0.out, HE.out, List.drop_of_length_le (by rw [HNN.out]; exact Nat.le_refl _), List.drop_of_length_le (by rw [HN2.out]; exact Nat.le_refl _)]; rfl
      go_wp2
      all_goals try (exfalso; omega)
      go_ret
      exact ⟨ret_bool HR.out.symm, HF0.out.trans HF.out⟩
end Go.Proofs.YtldncgelghcjeaaGreatDoor
