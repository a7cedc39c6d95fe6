/-
  Parts of the proof: YRTail.
-/
import Derived.Test.YtcljplkkgpjhlaaGreatDoorRCat26
import Derived.Test.YtcljplkkgpjhlaaGreatDoorRCat27
import Derived.Test.YtcljplkkgpjhlaaGreatDoorRCat16
import Derived.Test.YtcljplkkgpjhlaaGreatDoorRCat28
set_option maxRecDepth 100000
set_option maxHeartbeats 8000000
namespace Go.Proofs.YtcljplkkgpjhlaaGreatDoorR
namespace y
open Go.ChangeShapes Go.WideShapes Go.ChangeAt Go.RowKit
attribute [local go_sem ↓] Go.wp_at_zero Go.wp_at_succ
variable {w : World}
def startsB (n : Nat) : Code → Bool
  | .region k _ _ => k == n
  | .seq a _ => startsB n a
  | _ => false
def codeAt (n : Nat) : Code → Option Code
  | .seq a b => if startsB n a = true then some (.seq a b) else (match codeAt n a with | some x => some x | none => codeAt n b)
  | .cond _ a b => (match codeAt n a with | some x => some x | none => codeAt n b)
  | .block _ a => codeAt n a
  | .loop a => codeAt n a
  | _ => none
theorem close_err2 {w W : World} {sz p : Nat} {P c : Int} {x : Res} (hx : x = .error (p, c)) (hP : P = (p : Int)) (hw : w.heap.size = sz) (hf : Fresh w W) (u0 u1 u2 u3 u4 u5 : Value) :
    RBIs w x (.returned (.tuple #[.agg #[.int .i64 0, .bool false, .int .i64 0, .string ⟨#[]⟩, .slice none 0 0, .slice none 0 0], .int .i64 P, .int .i64 c])) ((((((W.setCell ⟨sz, 0, none⟩ u0).setCell ⟨sz, 1, none⟩ u1).setCell ⟨sz, 2, none⟩ u2).setCell ⟨sz, 3, none⟩ u3).setCell ⟨sz, 4, none⟩ u4).setCell ⟨sz, 5, none⟩ u5) := by
  subst hx hP
  exact close_err hw hf u0 u1 u2 u3 u4 u5
theorem six_set {W : World} {g : Nat} {T : TypeId} {a0 a1 a2 a3 a4 a5 : Value} (h : W.heap[g]? = some (.cells #[a0, a1, a2, a3, a4, a5] T (0, 0))) (u0 u1 u2 u3 u4 u5 : Value) :
    ((((((W.setCell ⟨g, 0, none⟩ u0).setCell ⟨g, 1, none⟩ u1).setCell ⟨g, 2, none⟩ u2).setCell ⟨g, 3, none⟩ u3).setCell ⟨g, 4, none⟩ u4).setCell ⟨g, 5, none⟩ u5).heap[g]? = some (.cells #[u0, u1, u2, u3, u4, u5] T (0, 0)) :=
  at_setCell (at_setCell (at_setCell (at_setCell (at_setCell (at_setCell h)))))
def RGetP (w : World) (key : ByteArray) (L : List ByteArray) (e : Ending) (w' : World) : Prop :=
  (∃ (mk : Int) (mf : Bool) (mn : Int) (ms : ByteArray) (mla : Option Addr) (mln mlc : Nat) (mka : Option Addr) (mkn mkc : Nat), e = .returned (.tuple #[.agg #[.int .i64 mk, .bool mf, .int .i64 mn, .string ms, .slice mla mln mlc, .slice mka mkn mkc], .bool (v.inB key L)])) ∧ Fresh w w'
theorem gets_inB (acc : List (ByteArray × v.V)) (key : ByteArray) : ((vKeys acc).gets key).2 = v.inB key (acc.map (·.1)) := by
  unfold v.V.gets
  rw [if_pos (show (vKeys acc).kind = 5 from rfl)]
  show (match acc.find? (fun p : ByteArray × v.V => decide (p.1 = key)) with | some p => (p.2, true) | none => (v.V0, false)).2 = _
  cases h : acc.find? (fun p : ByteArray × v.V => decide (p.1 = key)) with
  | none =>
    dsimp only
    symm
    refine v.inB_no fun hm => ?_
    obtain ⟨p, hp, e⟩ := List.mem_map.1 hm
    have := List.find?_eq_none.1 h p hp
    exact this (decide_eq_true e)
  | some p =>
    dsimp only
    symm
    have h1 := List.find?_some h
    have h2 := List.mem_of_find?_eq_some h
    exact v.inB_yes (List.mem_map.2 ⟨p, h2, of_decide_eq_true h1⟩)
theorem rget_keys (xs : List (ByteArray × v.M)) (ka : Option Addr) (kc : Nat) (key : ByteArray) (w : World) (h : (v.M.mk 5 false 0 ⟨#[]⟩ none 0 [] ka kc xs).At w) :
    Calls Tryz.prog 62 #[.agg #[.int .i64 5, .bool false, .int .i64 0, .string ⟨#[]⟩, .slice none 0 0, .slice ka xs.length kc], .string key] w (RGetP w key (xs.map (·.1))) := by
  refine (v.rget_any _ key w h).mono ?_
  rintro e w' ⟨⟨x, ok, rfl, _, hx⟩, hf⟩
  obtain ⟨mk, mf, mn, ms, mla, mlc, ml, mka, mkc, mks⟩ := x
  rw [RKeysAt.plain] at hx
  have h2 := gets_inB (xs.map plainP) key
  rw [← hx, plainP_names] at h2
  dsimp only at h2
  subst h2
  exact ⟨⟨mk, mf, mn, ms, mla, ml.length, mlc, mka, mks.length, mkc, rfl⟩, hf⟩
theorem keyE_q {m : Ent} {L : List ByteArray} (hq : m.quoted = true) (hl : m.key.length ≤ 4096) : keyE m L = if v.inB (tx m.key) L = true then 8 else 0 := by
  unfold keyE
  rw [if_neg (by simp [hq]), if_neg (by omega)]
theorem keyE_p {m : Ent} {L : List ByteArray} (hb : keyB m.key = true) (hl : m.key.length ≤ 4096) : keyE m L = if v.inB (tx m.key) L = true then 8 else 0 := by
  unfold keyE
  rw [if_neg (by simp [hb]), if_neg (by omega)]
theorem keys_tail (cd : Code) (hcd : Tryz.f28.body.bind (codeAt 48) = some cd) (Q : Exit → Act → World → Prop) (R : List Rw) (ind ins at0 e0 sz vb at1 nx xn g c rl p : Nat) (xs : List (ByteArray × v.M)) (ka : Option Addr) (kc : Nat) (w wr wc : World) (l : List UInt8) (s kk : ByteArray) (m : Ent) (NM : List ByteArray) (BK : Res) (VM : Ent → Res)
    (t1 t2 t4 t5 t6 t7 t9 t10 t13 t14 t15 t16 t20 t21 t22 t25 t27 t28 t29 t30 t31 t32 t33 t34 t35 t36 t37 t38 t39 t40 t41 t42 t43 t44 t45 t46 t47 t48 t49 t50 t51 t52 t53 t54 t55 t56 t57 t58 t59 t60 t61 t62 t63 t64 t65 t66 t67 t68 t69 t70 t71 t72 t73 t74 t75 t76 t77 t78 t79 t80 t81 t82 t83 t84 t85 t86 t87 t88 t89 t90 t91 t92 t93 t94 t95 t96 t97 t98 t99 t100 t101 t102 t103 t104 t105 t106 t107 t108 t109 t110 t111 t112 t113 t114 t115 t116 t117 t118 t119 t120 t121 t122 t123 t124 t125 t126 t127 t128 t129 t130 t131 t132 t133 t134 t135 t136 t137 t138 t139 t140 t141 t142 t143 t144 t145 t146 t147 t148 t149 t150 t151 t152 t153 t154 t155 t156 t157 t158 t159 t160 t161 t162 t163 t164 t165 t166 t167 t168 t169 t170 t171 t172 t173 t174 t175 t176 t177 t178 t179 t180 t181 t182 t183 t184 t185 t186 t187 t188 t189 t190 t191 t192 t193 t194 t195 t196 t197 t198 t199 t200 t201 t202 t203 t204 t205 t206 t207 t208 t209 t210 t211 t212 t213 t214 t215 t216 t217 t218 t219 t220 t221 t222 t223 t224 t225 t226 t227 t228 t229 t230 t231 t232 t233 t234 t235 t236 t237 t238 t239 t240 t241 t242 t243 t244 t245 t246 t247 t248 t249 t250 t251 t252 t253 t254 t255 t256 t257 t258 t259 t260 t261 t262 t263 t264 t265 t266 t267 t268 t269 t270 t271 t272 t273 t274 t275 : Value)
    (hin : ins < 32) (hpl : p < s.size) (htl : s.size = l.length) (hs9 : s.size ≤ 90000) (h1m : at1 ≤ 1000000)
    (HSZ : Hid (w.heap.size = sz)) (HBW : Hid (xs.length = xn)) (HL : Hid (RKeysAt w wr R ind ins at0 e0 sz vb xs at1 ka kc)) (HKR : Hid (KRow l m p)) (HEN : Hid (entM l = (0, some m))) (HMK : Hid (m.key.length ≤ 90000 ∧ m.behind.length ≤ 90000)) (HTX : Hid (s.data.toList = l)) (HKK : Hid (kk = tx m.key)) (HXL : Hid (xn + 1 ≤ 1000000)) (HF3 : Hid (Fresh wr wc)) (HKE : Hid (keyE m NM = if v.inB kk NM = true then 8 else 0))
    (HKEYE : Hid (∀ m : Ent, entM l = (0, some m) → keyE m (NM) ≠ 0 → pairs ind ins (cutP R at0 e0) [] = .error (at1, keyE m (NM))))
    (HVAL : Hid (∀ (m : Ent) (x : Nat × Int), entM l = (0, some m) → keyE m (NM) = 0 → VM m = .error x → pairs ind ins (cutP R at0 e0) [] = .error x))
    (HMORE : Hid (∀ (W3 W4 : World) (e : Ent) (m : v.M) (y : v.V) (g2 cap : Nat), entM l = (0, some e) → keyE e (NM) = 0 → e.key.length ≤ 90000 → m.plain = y → VM e = .ok y → m.New wr.heap.size W3 → Fresh wr W3 → W4.ownsRow (vb + 1) 69 7 (.slice (some ⟨g2, 0, none⟩) (xn + 1) cap) (xn + 1) (v.pcells xs ++ v.pcellsOf (tx e.key, m)) → W3.grownBy W4 (Value.slice ka xn kc).ownBlock → ((Value.slice ka xn kc).ownBlock = some g2 ∨ g2 = W3.heap.size) → RKeysAt w (W4.setCell ⟨vb, 5, none⟩ (.slice (some ⟨g2, 0, none⟩) (xn + 1) cap)) R ind ins at0 e0 sz vb (xs ++ [(tx e.key, m)]) nx (some ⟨g2, 0, none⟩) cap))
    (HTOLD : Hid (∀ p x, BK = .error (p, x) → x ≠ 0))
    (HGET : Hid (∀ (key : ByteArray) (W : World), Fresh wr W → Calls Tryz.prog 62 #[.agg #[.int .i64 5, .bool false, .int .i64 0, .string ⟨#[]⟩, .slice none 0 0, .slice ka xn kc], .string key] W (RGetP W key (NM))))
    (HVM : Hid (∀ m : Ent, VM m = if m.behind = [] then BK else if (scM m.behind (ins + 1)).1 ≠ 0 then .error (at1, (scM m.behind (ins + 1)).1) else if at1 + 1 < nx then .error (at1 + 1, 6) else .ok (scM m.behind (ins + 1)).2))
    (HBL : Hid (∀ W : World, Fresh wr W → Calls Tryz.prog 28 #[.slice (some ⟨g, 0, none⟩) rl c, .int .i64 ((at1 : Int) + 1), .int .i64 (nx : Int), .int .i64 ((ins : Int) + 1)] W (RBP W (BK))))
    (HRET : Hid (∀ (a : Act) (W : World), bodyPost Tryz.prog Tryz.f28 (RBIs w (pairs ind ins (cutP R at0 e0) [])) Exit.ret a W → Q Exit.ret a W))
    (HNXT : Hid (∀ (xs2 : List (ByteArray × v.M)) (ka2 : Option Addr) (kc2 : Nat) (W2 : World), RKeysAt w W2 R ind ins at0 e0 sz vb xs2 nx ka2 kc2 → ∀ (y9 y10 y19 y20 y21 y22 y23 y24 y25 y26 y27 y28 y29 y30 y31 y32 y33 y34 y35 y98 y99 y100 y101 y102 y103 y104 y105 y106 y107 y108 y109 y110 y111 y112 y113 y114 y115 y116 y117 y118 y119 y120 y121 y122 y123 y124 y125 y126 y127 y128 y129 y130 y131 y132 y133 y134 y135 y136 y137 y138 y139 y140 y141 y142 y143 y144 y145 y146 y147 y148 y149 y150 y151 y152 y153 y154 y155 y156 y157 y158 y159 y160 y161 y162 y163 y164 y165 y166 y167 y168 y169 y170 y171 y172 y173 y174 y175 y176 y177 y178 y179 y180 y181 y182 y183 y184 y185 y186 y187 y188 y189 y190 y191 y192 y193 y194 y195 y196 y197 y198 y199 y200 y201 y202 y203 y204 y205 y206 y207 y208 y209 y210 y211 y212 y213 y214 y215 y216 y217 y218 y219 y220 y221 y222 y223 y224 y225 y226 y227 y228 y229 y230 y231 y232 y233 y234 y235 y236 y237 y238 y239 y240 y241 y242 y243 y244 y245 y246 y247 y248 y249 y250 y251 y252 y253 y254 y255 y256 y257 y258 y259 y260 y261 y262 y263 y264 y265 y266 y267 y268 y269 y270 y271 y272 y273 y274 : Value), Q Exit.normal { tmps := #[.slice (some ⟨g, 0, none⟩) rl c, t1, t2, .int .i64 (ins : Int), t4, t5, t6, t7, .pointer (some ⟨sz, 0, none⟩), y9, y10, .int .i64 (ind : Int), .int .i64 5, t13, t14, t15, t16, .pointer (some ⟨vb, 0, none⟩), .int .i64 (nx : Int), y19, y20, y21, y22, y23, y24, y25, y26, y27, y28, y29, y30, y31, y32, y33, y34, y35, t36, t37, t38, t39, t40, t41, t42, t43, t44, t45, t46, t47, t48, t49, t50, t51, t52, t53, t54, t55, t56, t57, t58, t59, t60, t61, t62, t63, t64, t65, t66, t67, t68, t69, t70, t71, t72, t73, t74, t75, t76, t77, t78, t79, t80, t81, t82, t83, t84, t85, t86, t87, t88, t89, t90, t91, t92, t93, t94, t95, t96, t97, y98, y99, y100, y101, y102, y103, y104, y105, y106, y107, y108, y109, y110, y111, y112, y113, y114, y115, y116, y117, y118, y119, y120, y121, y122, y123, y124, y125, y126, y127, y128, y129, y130, y131, y132, y133, y134, y135, y136, y137, y138, y139, y140, y141, y142, y143, y144, y145, y146, y147, y148, y149, y150, y151, y152, y153, y154, y155, y156, y157, y158, y159, y160, y161, y162, y163, y164, y165, y166, y167, y168, y169, y170, y171, y172, y173, y174, y175, y176, y177, y178, y179, y180, y181, y182, y183, y184, y185, y186, y187, y188, y189, y190, y191, y192, y193, y194, y195, y196, y197, y198, y199, y200, y201, y202, y203, y204, y205, y206, y207, y208, y209, y210, y211, y212, y213, y214, y215, y216, y217, y218, y219, y220, y221, y222, y223, y224, y225, y226, y227, y228, y229, y230, y231, y232, y233, y234, y235, y236, y237, y238, y239, y240, y241, y242, y243, y244, y245, y246, y247, y248, y249, y250, y251, y252, y253, y254, y255, y256, y257, y258, y259, y260, y261, y262, y263, y264, y265, y266, y267, y268, y269, y270, y271, y272, y273, y274, t275], defers := [] } W2)) :
    Code.wp Tryz.prog cd Q { tmps := #[.slice (some ⟨g, 0, none⟩) rl c, t1, t2, .int .i64 (ins : Int), t4, t5, t6, t7, .pointer (some ⟨sz, 0, none⟩), t9, t10, .int .i64 (ind : Int), .int .i64 5, t13, t14, t15, t16, .pointer (some ⟨vb, 0, none⟩), .int .i64 (at1 : Int), .int .i64 (nx : Int), t20, t21, t22, .string s, .int .i64 (p : Int), t25, .string kk, t27, t28, t29, t30, t31, t32, t33, t34, t35, t36, t37, t38, t39, t40, t41, t42, t43, t44, t45, t46, t47, t48, t49, t50, t51, t52, t53, t54, t55, t56, t57, t58, t59, t60, t61, t62, t63, t64, t65, t66, t67, t68, t69, t70, t71, t72, t73, t74, t75, t76, t77, t78, t79, t80, t81, t82, t83, t84, t85, t86, t87, t88, t89, t90, t91, t92, t93, t94, t95, t96, t97, t98, t99, t100, t101, t102, t103, t104, t105, t106, t107, t108, t109, t110, t111, t112, t113, t114, t115, t116, t117, t118, t119, t120, t121, t122, t123, t124, t125, t126, t127, t128, t129, t130, t131, t132, t133, t134, t135, t136, t137, t138, t139, t140, t141, t142, t143, t144, t145, t146, t147, t148, t149, t150, t151, t152, t153, t154, t155, t156, t157, t158, t159, t160, t161, t162, t163, t164, t165, t166, t167, t168, t169, t170, t171, t172, t173, t174, t175, t176, t177, t178, t179, t180, t181, t182, t183, t184, t185, t186, t187, t188, t189, t190, t191, t192, t193, t194, t195, t196, t197, t198, t199, t200, t201, t202, t203, t204, t205, t206, t207, t208, t209, t210, t211, t212, t213, t214, t215, t216, t217, t218, t219, t220, t221, t222, t223, t224, t225, t226, t227, t228, t229, t230, t231, t232, t233, t234, t235, t236, t237, t238, t239, t240, t241, t242, t243, t244, t245, t246, t247, t248, t249, t250, t251, t252, t253, t254, t255, t256, t257, t258, t259, t260, t261, t262, t263, t264, t265, t266, t267, t268, t269, t270, t271, t272, t273, t274, t275], defers := [] } wc := by
  obtain ⟨i0, z0, hii, hz0, hzc, hz1, hz2⟩ := v.info_seven v.info56
  have hwi : IntKind.i64.wrap ((ins : Int) + 1) = (ins : Int) + 1 := IntWalk.i64_in _ (by omega)
  have hw1 : IntKind.i64.wrap ((at1 : Int) + 1) = (at1 : Int) + 1 := IntWalk.i64_in _ (by omega)
  have HVB : Hid (vb < wr.heap.size) := v.lt_of_at HL.out.vb
  have HSV : Hid (sz < vb) := HL.out.low
  have HRO := Lib.hid (HL.out.rb)
  obtain rfl : cd = _ := Option.some.inj (hcd.symm.trans (show Tryz.f28.body.bind (codeAt 48) = some _ from rfl))
  clear hcd
  have HV3 : Hid (wc.heap[vb]? = some (.cells (kcells ka xn kc) 36 (0, 0))) := by
    have := v.Fresh.at HF3.out HL.out.vb
    rw [HBW.out] at this
    exact this
  have HR3 : Hid (RBox wc sz) := v.Fresh.at HF3.out HRO.out
  obtain ⟨y0, y1, y2, y3, y4, y5, _, _⟩ := six_facts HV3.out
  go_wp2_with fail
  refine (HGET.out kk _ HF3.out).mono ?_
  rintro e w4 ⟨⟨mk, mf, mn, ms, mla, mln, mlc, mka, mkn, mkc, rfl⟩, hf⟩
  have HF5 : Hid (Fresh wr (w4.alloc (.cells #[.int .i64 mk, .bool mf, .int .i64 mn, .string ms, .slice mla mln mlc, .slice mka mkn mkc] 36 (0, 0)))) := (HF3.out.trans hf).alloc _
  have HR5 : Hid (RBox (w4.alloc (.cells #[.int .i64 mk, .bool mf, .int .i64 mn, .string ms, .slice mla mln mlc, .slice mka mkn mkc] 36 (0, 0))) sz) := v.at_alloc (v.Fresh.at hf HR3.out)
  clear hf y0 y1 y2 y3 y4 y5 HGET
  go_upto_region 49 with (fail)
  generalize w4.alloc (.cells #[.int .i64 mk, .bool mf, .int .i64 mn, .string ms, .slice mla mln mlc, .slice mka mkn mkc] 36 (0, 0)) = w5 at *
  generalize w4.heap.size = bg at *
  clear HV3 HR3 HF3
  cases hib : v.inB kk NM with
  | true =>
    have hk8 : keyE m NM = 8 := by rw [HKE.out, if_pos hib]
    have HI : Hid (pairs ind ins (cutP R at0 e0) [] = .error (at1, 8)) := by
      have := HKEYE.out m HEN.out (by rw [hk8]; decide)
      rw [hk8] at this; exact this
    have HC : Hid (∀ u0 u1 u2 u3 u4 u5 : Value, RBIs w (pairs ind ins (cutP R at0 e0) []) (.returned (.tuple #[.agg #[.int .i64 0, .bool false, .int .i64 0, .string ⟨#[]⟩, .slice none 0 0, .slice none 0 0], .int .i64 (at1 : Int), .int .i64 8])) ((((((w5.setCell ⟨sz, 0, none⟩ u0).setCell ⟨sz, 1, none⟩ u1).setCell ⟨sz, 2, none⟩ u2).setCell ⟨sz, 3, none⟩ u3).setCell ⟨sz, 4, none⟩ u4).setCell ⟨sz, 5, none⟩ u5)) := by exact close_err2 HI.out rfl HSZ.out (HL.out.fr.trans HF5.out)
    obtain ⟨c0, c1, c2, c3, c4, c5, f, lt⟩ := HR5.out.facts
    have f0 := f 0; have f1 := f 1; have f2 := f 2; have f3 := f 3; have f4 := f 4; have f5 := f 5
    clear f
    clear hk8 HI HVM HMORE HVAL HKEYE hib HKE
    go_wp2
    refine HRET.out _ _ ?_
    refine bodyPost_ret (v := .tuple #[.agg #[.int .i64 0, .bool false, .int .i64 0, .string ⟨#[]⟩, .slice none 0 0, .slice none 0 0], .int .i64 (at1 : Int), .int .i64 8]) (by simp [results, Tryz.results28, go_sem, *]) rfl ?_
    exact HC.out _ _ _ _ _ _
  | false =>
    have HK0 : Hid (keyE m NM = 0) := by rw [Hid, HKE.out, if_neg (by rw [hib]; simp)]
    have hwp : IntKind.i64.wrap ((p : Int) + 1) = (p : Int) + 1 := IntWalk.i64_in _ (by omega)
    clear hib HKE HKEYE
    obtain ⟨q0, hq0⟩ : ∃ q0 : Nat, q0 = l.length - m.behind.length := ⟨_, rfl⟩
    have HQ : Hid (l.drop q0 = m.behind ∧ p + 1 ≤ q0 ∧ q0 ≤ s.size) := by
      have hb := HKR.out.be
      have hlt := HKR.out.lt
      have h1 : m.behind = l.drop (p + 1 + blanks (l.drop (p + 1))) := by rw [hb]; unfold lead; rw [List.drop_drop]
      have h2 := blanks_le (l.drop (p + 1))
      rw [List.length_drop] at h2
      have h3 : q0 = p + 1 + blanks (l.drop (p + 1)) := by rw [hq0, h1, List.length_drop]; omega
      exact ⟨by rw [h3, ← h1], by omega, by rw [htl]; omega⟩
    have HLD : Hid (lead (l.drop (p + 1)) = m.behind) := HKR.out.be.symm
    have HDROP : Hid (∀ (i : Nat) (h : i < s.size), l.drop i = s[i] :: l.drop (i + 1)) := fun i h => by
      have : ∀ L : List UInt8, s.data.toList = L → L.drop i = s[i] :: L.drop (i + 1) := fun L e => by
        subst e
        exact List.drop_eq_getElem_cons (by rw [Array.length_toList]; exact h)
      exact this l HTX.out
    clear hq0
    go_upto_block 2 with (fail)
    go_cut [18, 19, 23, 24, 26, 29] from 98 to 274 (fun a18 a19 a23 a24 a26 a29 wc => a18 = .int .i64 (at1 : Int) ∧ a19 = .int .i64 (nx : Int) ∧ a23 = .string s ∧ a24 = .int .i64 (p : Int) ∧ a26 = .string kk ∧ a29 = .int .i64 (q0 : Int) ∧ w5 = wc)
    case first =>
      go_wp2
      go_loopw [29] (fun a29 wq => ∃ q : Nat, p + 1 ≤ q ∧ q ≤ s.size ∧ a29 = .int .i64 (q : Int) ∧ Hid (lead (l.drop q) = m.behind) ∧ w5 = wq) (fun a29 _ => s.size - (intOf a29).toNat)
      case atStart => exact ⟨p + 1, Nat.le_refl _, by omega, by go_num, HLD.out, rfl⟩
      case round =>
        obtain ⟨q, hq1, hq2, rfl, HQL, rfl⟩ := hrel
        by_cases hq : q < s.size
        · have hd := HDROP.out q hq
          have hi : (0 : Int) ≤ (q : Int) ∧ (q : Int) < (s.size : Int) := ⟨by omega, by omega⟩
          have hwq : IntKind.i64.wrap ((q : Int) + 1) = (q : Int) + 1 := IntWalk.i64_in _ (by omega)
          by_cases c32 : s[q] = 32
          · have HQ2 : Hid (lead (l.drop (q + 1)) = m.behind) := by
              have := HQL.out
              rw [hd, c32] at this
              rw [Hid, ← this]
              unfold lead blanks
              simp
            have g32 : ((s[q].toNat : Int) == 32) = true := by rw [c32]; rfl
            clear hd c32
            go_wp2
            go_roundw
            case rel => exact ⟨q + 1, by omega, by omega, by go_num, HQ2.out, by trivial⟩
            case measure => simp [intOf]; omega
          · have hqq : q = q0 := by
              have h1 := HQL.out
              have hst : lead (l.drop q) = l.drop q := by
                rw [hd]
                unfold lead blanks
                rw [List.takeWhile_cons]
                have : (s[q] == (32 : UInt8)) = false := beq_eq_false_iff_ne.2 c32
                rw [this]
                simp
              rw [hst] at h1
              have h2 := congrArg List.length (h1.trans HQ.out.1.symm)
              rw [List.length_drop, List.length_drop] at h2
              have := HQ.out.2.2
              omega
            have g32 : ((s[q].toNat : Int) == 32) = false := beq_eq_false_iff_ne.2 (fun e => c32 (UInt8.toNat_inj.1 (by simpa using (by omega : s[q].toNat = 32))))
            subst hqq
            clear hd c32
            go_wp2
            go_meet
            case rel => exact ⟨rfl, rfl, rfl, rfl, rfl, rfl, rfl⟩
        · have hqq : q = q0 := by
            have h1 := HQL.out
            rw [List.drop_of_length_le (by omega)] at h1
            have h2 := congrArg List.length (h1.trans HQ.out.1.symm)
            rw [List.length_drop] at h2
            have := HQ.out.2.2
            simp [lead] at h2
            omega
          have hi : ¬ (q : Int) < (s.size : Int) := by omega
          subst hqq
          go_wp2
          go_meet
          case rel => exact ⟨rfl, rfl, rfl, rfl, rfl, rfl, rfl⟩
    case rest =>
      obtain ⟨rfl, rfl, rfl, rfl, rfl, rfl, rfl⟩ := hcut
      clear HLD
      have HFZ : Hid (Fresh wr (w5.alloc (.cells zcells 36 (0, 0)))) := HF5.out.alloc _
      have HRZ : Hid (RBox (w5.alloc (.cells zcells 36 (0, 0))) sz) := v.at_alloc HR5.out
      have HBZ : Hid ((w5.alloc (.cells zcells 36 (0, 0))).heap[w5.heap.size]? = some (.cells zcells 36 (0, 0))) := v.at_new w5 _
      have HBN : Hid (wr.heap.size ≤ w5.heap.size) := HF5.out.size
      have HBL2 : Hid (w5.heap.size < (w5.alloc (.cells zcells 36 (0, 0))).heap.size) := by rw [Hid, World.size_alloc]; omega
      go_upto_if 226 with (fail)
      generalize w5.alloc (.cells zcells 36 (0, 0)) = w6 at *
      generalize w5.heap.size = bx at *
      clear HF5 HR5
      go_cut [18, 19, 26, 30, 31, 32, 33, 34, 35] from 98 to 274 (fun a18 a19 a26 a30 _ _ _ _ _ wc => a18 = .int .i64 (at1 : Int) ∧ a19 = .int .i64 (nx : Int) ∧ a26 = .string kk ∧ a30 = .pointer (some ⟨bx, 0, none⟩) ∧ ∃ (mk : Int) (mf : Bool) (mn : Int) (ms : ByteArray) (mla : Option Addr) (mlc : Nat) (ml : List v.M) (mka : Option Addr) (mkc : Nat) (mks : List (ByteArray × v.M)), Hid (wc.heap[bx]? = some (.cells #[.int .i64 mk, .bool mf, .int .i64 mn, .string ms, .slice mla ml.length mlc, .slice mka mks.length mkc] 36 (0, 0))) ∧ Hid (VM m = .ok (v.M.mk mk mf mn ms mla mlc ml mka mkc mks).plain) ∧ Hid ((v.M.mk mk mf mn ms mla mlc ml mka mkc mks).New wr.heap.size wc) ∧ Hid (Fresh wr wc))
      case first =>
        by_cases hb : m.behind = []
        · have gq : ¬ (q0 : Int) < (s.size : Int) := by
            have h1 := congrArg List.length HQ.out.1
            rw [hb, List.length_drop] at h1
            have h2 := HQ.out.2.2
            simp at h1; omega
          have HVB2 : Hid (VM m = BK) := by rw [Hid, HVM.out, if_pos hb]
          clear hb
          go_wp2_with fail
          refine (HBL.out _ HFZ.out).mono ?_
          rintro e w7 (⟨pp, cc, hx, rfl, hf⟩ | ⟨y, mk, mf, mn, ms, mla, mlc, ml, mka, mkc, mks, rfl, ⟨hx, hp, hn⟩, hf⟩)
          · have gcc : (cc != 0) = true := by simpa using HTOLD.out pp cc hx
            have HI : Hid (pairs ind ins (cutP R at0 e0) [] = .error (pp, cc)) := HVAL.out m (pp, cc) HEN.out HK0.out (HVB2.out.trans hx)
            have HR8 : Hid (RBox (w7.alloc (.cells zcells 36 (0, 0))) sz) := v.at_alloc (v.Fresh.at hf HRZ.out)
            have HC : Hid (∀ u0 u1 u2 u3 u4 u5 : Value, RBIs w (pairs ind ins (cutP R at0 e0) []) (.returned (.tuple #[.agg #[.int .i64 0, .bool false, .int .i64 0, .string ⟨#[]⟩, .slice none 0 0, .slice none 0 0], .int .i64 (pp : Int), .int .i64 cc])) (((((((w7.alloc (.cells zcells 36 (0, 0))).setCell ⟨sz, 0, none⟩ u0).setCell ⟨sz, 1, none⟩ u1).setCell ⟨sz, 2, none⟩ u2).setCell ⟨sz, 3, none⟩ u3).setCell ⟨sz, 4, none⟩ u4).setCell ⟨sz, 5, none⟩ u5)) := by exact close_err2 HI.out rfl HSZ.out ((HL.out.fr.trans (HFZ.out.trans hf)).alloc _)
            clear hx hf HI HVM HMORE HVAL HBL HVB2
            go_upto_region 63 with (fail)
            generalize w7.alloc (.cells zcells 36 (0, 0)) = w8 at *
            obtain ⟨c0, c1, c2, c3, c4, c5, f, lt⟩ := HR8.out.facts
            have f0 := f 0; have f1 := f 1; have f2 := f 2; have f3 := f 3; have f4 := f 4; have f5 := f 5
            clear f
            go_wp2
            refine HRET.out _ _ ?_
            refine bodyPost_ret (v := .tuple #[.agg #[.int .i64 0, .bool false, .int .i64 0, .string ⟨#[]⟩, .slice none 0 0, .slice none 0 0], .int .i64 (pp : Int), .int .i64 cc]) (by simp [results, Tryz.results28, go_sem, *]) rfl ?_
            exact HC.out _ _ _ _ _ _
          · have HV9 : Hid (VM m = .ok (v.M.mk mk mf mn ms mla mlc ml mka mkc mks).plain) := by rw [Hid, HVB2.out, hx, hp]
            have HB8 : Hid ((w7.alloc (.cells #[.int .i64 mk, .bool mf, .int .i64 mn, .string ms, .slice mla ml.length mlc, .slice mka mks.length mkc] 36 (0, 0))).heap[bx]? = some (.cells zcells 36 (0, 0))) := v.at_alloc (v.Fresh.at hf HBZ.out)
            have HX8 : Hid ((w7.alloc (.cells #[.int .i64 mk, .bool mf, .int .i64 mn, .string ms, .slice mla ml.length mlc, .slice mka mks.length mkc] 36 (0, 0))).heap[w7.heap.size]? = some (.cells #[.int .i64 mk, .bool mf, .int .i64 mn, .string ms, .slice mla ml.length mlc, .slice mka mks.length mkc] 36 (0, 0))) := v.at_new w7 _
            have HF8 : Hid (Fresh wr (w7.alloc (.cells #[.int .i64 mk, .bool mf, .int .i64 mn, .string ms, .slice mla ml.length mlc, .slice mka mks.length mkc] 36 (0, 0)))) := (HFZ.out.trans hf).alloc _
            have HM8 : Hid ((v.M.mk mk mf mn ms mla mlc ml mka mkc mks).New (bx + 1) (w7.alloc (.cells #[.int .i64 mk, .bool mf, .int .i64 mn, .string ms, .slice mla ml.length mlc, .slice mka mks.length mkc] 36 (0, 0)))) := (hn.mono (by have := HBL2.out; omega)).move ((Fresh.refl _).alloc _)
            clear hx hp hn hf HVM HMORE HVAL HBL HVB2
            go_upto_region 63 with (fail)
            generalize w7.alloc (.cells #[.int .i64 mk, .bool mf, .int .i64 mn, .string ms, .slice mla ml.length mlc, .slice mka mks.length mkc] 36 (0, 0)) = w8 at *
            generalize w7.heap.size = by8 at *
            obtain ⟨x0, x1, x2, x3, x4, x5, _, _⟩ := six_facts HX8.out
            obtain ⟨z0, z1, z2, z3, z4, z5, zf, _⟩ := six_facts HB8.out
            have f0 := zf 0; have f1 := zf 1; have f2 := zf 2; have f3 := zf 3; have f4 := zf 4; have f5 := zf 5
            clear zf
            go_wp2
            go_meet
            case rel =>
              refine ⟨rfl, rfl, rfl, rfl, mk, mf, mn, ms, mla, mlc, ml, mka, mkc, mks, six_set HB8.out _ _ _ _ _ _, HV9.out, ?_, ?_⟩
              · exact (new_wr HM8.out ((Wr.refl (fun k => k = bx) w8).set6 (g := bx) (.inl rfl) _ _ _ _ _ _) (fun k e => by omega)).mono (by have := HBN.out; omega)
              · exact Wr.toFresh (p := fun k => wr.heap.size ≤ k) ((Wr.of_fresh HF8.out).set6 (.inl HBN.out) _ _ _ _ _ _) (fun k hk h => by omega)
        · have hqs : q0 < s.size := by
            have h1 := congrArg List.length HQ.out.1
            rw [List.length_drop] at h1
            have h2 : 0 < m.behind.length := List.length_pos_iff.2 hb
            omega
          have gq : (q0 : Int) < (s.size : Int) := by omega
          obtain ⟨tb, htb⟩ : ∃ tb, tb = tx m.behind := ⟨_, rfl⟩
          have hsl2 : ∀ W : World, (Instr.slice 9 (.string s) (some (.int .i64 (q0 : Int))) none none).run Tryz.prog W = .ok (.string tb) W := fun W => by
            have h1 : (q0 : Int) ≤ (s.size : Int) := by omega
            have h2 : s.extract q0 s.size = tb := by
              rw [htb, tx_extract, HTX.out, HQ.out.1]
              congr 1
              rw [List.take_of_length_le]
              have h1 := congrArg List.length HQ.out.1
              rw [List.length_drop] at h1
              omega
            rw [← h2]
            simp [go_sem, h1]
          obtain ⟨sk, sf, sn, st, sx, HSC, HSX, HSN⟩ : ∃ (sk : Int) (sf : Bool) (sn : Int) (st : ByteArray) (sx : Int), Hid (∀ W : World, Calls Tryz.prog 59 #[.string tb, .int .i64 ((ins : Int) + 1)] W fun e w' => e = .returned (.tuple #[.agg #[.int .i64 sk, .bool sf, .int .i64 sn, .string st, .slice none 0 0, .slice none 0 0], .int .i64 sx]) ∧ Fresh W w') ∧
              Hid (VM m = if sx ≠ 0 then .error (at1, sx) else if at1 + 1 < nx then .error (at1 + 1, 6) else .ok (v.M.mk sk sf sn st none 0 [] none 0 []).plain) ∧ Hid (∀ (n : Nat) (W : World), (v.M.mk sk sf sn st none 0 [] none 0 []).New n W) := by
            refine ⟨(scM m.behind (ins + 1)).2.kind, (scM m.behind (ins + 1)).2.flag, (scM m.behind (ins + 1)).2.num, (scM m.behind (ins + 1)).2.text, (scM m.behind (ins + 1)).1, fun W => ?_, ?_, fun n W => ?_⟩
            · have := rscal_any m.behind (ins + 1) W HMK.out.2 hb
              rw [htb]
              rw [show ((ins + 1 : Nat) : Int) = (ins : Int) + 1 by omega] at this
              exact this
            · have h1 := HVM.out m
              rw [if_neg hb] at h1
              have h2 := flat_plain _ (scM_flat m.behind (ins + 1))
              rw [Hid, h1]
              congr 2
              rw [← h2]
              rfl
            · exact flat_new _ n W (Nat.le_trans (scM_size m.behind (ins + 1) HMK.out.2) (by decide))
          clear hb htb HVM
          go_wp2_with fail
          refine (HSC.out _).mono ?_
          rintro e w7 ⟨rfl, hf⟩
          have HR8 : Hid (RBox (w7.alloc (.cells #[.int .i64 sk, .bool sf, .int .i64 sn, .string st, .slice none 0 0, .slice none 0 0] 36 (0, 0))) sz) := v.at_alloc (v.Fresh.at hf HRZ.out)
          have HB8 : Hid ((w7.alloc (.cells #[.int .i64 sk, .bool sf, .int .i64 sn, .string st, .slice none 0 0, .slice none 0 0] 36 (0, 0))).heap[bx]? = some (.cells zcells 36 (0, 0))) := v.at_alloc (v.Fresh.at hf HBZ.out)
          have HX8 : Hid ((w7.alloc (.cells #[.int .i64 sk, .bool sf, .int .i64 sn, .string st, .slice none 0 0, .slice none 0 0] 36 (0, 0))).heap[w7.heap.size]? = some (.cells #[.int .i64 sk, .bool sf, .int .i64 sn, .string st, .slice none 0 0, .slice none 0 0] 36 (0, 0))) := v.at_new w7 _
          have HF8 : Hid (Fresh wr (w7.alloc (.cells #[.int .i64 sk, .bool sf, .int .i64 sn, .string st, .slice none 0 0, .slice none 0 0] 36 (0, 0)))) := (HFZ.out.trans hf).alloc _
          clear hf HSC HBL hsl2
          go_upto_region 57 with (fail)
          generalize w7.alloc (.cells #[.int .i64 sk, .bool sf, .int .i64 sn, .string st, .slice none 0 0, .slice none 0 0] 36 (0, 0)) = w8 at *
          generalize w7.heap.size = by8 at *
          by_cases hsx : sx = 0
          · subst hsx
            obtain ⟨x0, x1, x2, x3, x4, x5, _, _⟩ := six_facts HX8.out
            obtain ⟨z0, z1, z2, z3, z4, z5, zf, _⟩ := six_facts HB8.out
            have f0 := zf 0; have f1 := zf 1; have f2 := zf 2; have f3 := zf 3; have f4 := zf 4; have f5 := zf 5
            clear zf
            go_upto_region 60 with (fail)
            clear x0 x1 x2 x3 x4 x5 z0 z1 z2 z3 z4 z5 f0 f1 f2 f3 f4 f5
            have HB9 : Hid (((((((w8.setCell ⟨bx, 0, none⟩ (.int .i64 sk)).setCell ⟨bx, 1, none⟩ (.bool sf)).setCell ⟨bx, 2, none⟩ (.int .i64 sn)).setCell ⟨bx, 3, none⟩ (.string st)).setCell ⟨bx, 4, none⟩ (.slice none 0 0)).setCell ⟨bx, 5, none⟩ (.slice none 0 0)).heap[bx]? = some (.cells #[.int .i64 sk, .bool sf, .int .i64 sn, .string st, .slice none 0 0, .slice none 0 0] 36 (0, 0))) := six_set HB8.out _ _ _ _ _ _
            have HR9 : Hid (RBox ((((((w8.setCell ⟨bx, 0, none⟩ (.int .i64 sk)).setCell ⟨bx, 1, none⟩ (.bool sf)).setCell ⟨bx, 2, none⟩ (.int .i64 sn)).setCell ⟨bx, 3, none⟩ (.string st)).setCell ⟨bx, 4, none⟩ (.slice none 0 0)).setCell ⟨bx, 5, none⟩ (.slice none 0 0)) sz) := ((Wr.refl (fun k => k = bx) w8).set6 (g := bx) (.inl rfl) _ _ _ _ _ _).at (by have := HSV.out; have := HVB.out; have := HBN.out; omega) HR8.out
            have HF9 : Hid (Fresh wr ((((((w8.setCell ⟨bx, 0, none⟩ (.int .i64 sk)).setCell ⟨bx, 1, none⟩ (.bool sf)).setCell ⟨bx, 2, none⟩ (.int .i64 sn)).setCell ⟨bx, 3, none⟩ (.string st)).setCell ⟨bx, 4, none⟩ (.slice none 0 0)).setCell ⟨bx, 5, none⟩ (.slice none 0 0))) := Wr.toFresh (p := fun k => wr.heap.size ≤ k) ((Wr.of_fresh HF8.out).set6 (.inl HBN.out) _ _ _ _ _ _) (fun k hk h => by omega)
            generalize ((((((w8.setCell ⟨bx, 0, none⟩ (.int .i64 sk)).setCell ⟨bx, 1, none⟩ (.bool sf)).setCell ⟨bx, 2, none⟩ (.int .i64 sn)).setCell ⟨bx, 3, none⟩ (.string st)).setCell ⟨bx, 4, none⟩ (.slice none 0 0)).setCell ⟨bx, 5, none⟩ (.slice none 0 0)) = w9 at *
            by_cases hn1 : at1 + 1 < nx
            · have gn : (at1 : Int) + 1 < (nx : Int) := by omega
              have HI : Hid (pairs ind ins (cutP R at0 e0) [] = .error (at1 + 1, 6)) := HVAL.out m _ HEN.out HK0.out (by rw [HSX.out, if_neg (by simp), if_pos hn1])
              have HC : Hid (∀ u0 u1 u2 u3 u4 u5 : Value, RBIs w (pairs ind ins (cutP R at0 e0) []) (.returned (.tuple #[.agg #[.int .i64 0, .bool false, .int .i64 0, .string ⟨#[]⟩, .slice none 0 0, .slice none 0 0], .int .i64 ((at1 : Int) + 1), .int .i64 6])) ((((((w9.setCell ⟨sz, 0, none⟩ u0).setCell ⟨sz, 1, none⟩ u1).setCell ⟨sz, 2, none⟩ u2).setCell ⟨sz, 3, none⟩ u3).setCell ⟨sz, 4, none⟩ u4).setCell ⟨sz, 5, none⟩ u5)) := by exact close_err2 HI.out (by omega) HSZ.out (HL.out.fr.trans HF9.out)
              obtain ⟨c0, c1, c2, c3, c4, c5, f, lt⟩ := HR9.out.facts
              have f0 := f 0; have f1 := f 1; have f2 := f 2; have f3 := f 3; have f4 := f 4; have f5 := f 5
              clear f
              clear HI HMORE HVAL HSX HSN HB8 HR8 HX8 HF8
              go_wp2
              refine HRET.out _ _ ?_
              refine bodyPost_ret (v := .tuple #[.agg #[.int .i64 0, .bool false, .int .i64 0, .string ⟨#[]⟩, .slice none 0 0, .slice none 0 0], .int .i64 ((at1 : Int) + 1), .int .i64 6]) (by simp [results, Tryz.results28, go_sem, *]) rfl ?_
              exact HC.out _ _ _ _ _ _
            · have gn : ¬ (at1 : Int) + 1 < (nx : Int) := by omega
              have HV9 : Hid (VM m = .ok (v.M.mk sk sf sn st none 0 [] none 0 []).plain) := by rw [Hid, HSX.out, if_neg (by simp), if_neg hn1]
              clear HMORE HVAL HSX HB8 HR8 HX8 HF8
              go_wp2
              go_meet
              case rel => exact ⟨rfl, rfl, rfl, rfl, sk, sf, sn, st, none, 0, [], none, 0, [], HB9.out, HV9.out, HSN.out _ _, HF9.out⟩
          · have gsx : (sx != 0) = true := by simpa using hsx
            have HI : Hid (pairs ind ins (cutP R at0 e0) [] = .error (at1, sx)) := HVAL.out m _ HEN.out HK0.out (by rw [HSX.out, if_pos hsx])
            have HC : Hid (∀ u0 u1 u2 u3 u4 u5 : Value, RBIs w (pairs ind ins (cutP R at0 e0) []) (.returned (.tuple #[.agg #[.int .i64 0, .bool false, .int .i64 0, .string ⟨#[]⟩, .slice none 0 0, .slice none 0 0], .int .i64 (at1 : Int), .int .i64 sx])) ((((((w8.setCell ⟨sz, 0, none⟩ u0).setCell ⟨sz, 1, none⟩ u1).setCell ⟨sz, 2, none⟩ u2).setCell ⟨sz, 3, none⟩ u3).setCell ⟨sz, 4, none⟩ u4).setCell ⟨sz, 5, none⟩ u5)) := by exact close_err2 HI.out rfl HSZ.out (HL.out.fr.trans HF8.out)
            obtain ⟨c0, c1, c2, c3, c4, c5, f, lt⟩ := HR8.out.facts
            have f0 := f 0; have f1 := f 1; have f2 := f 2; have f3 := f 3; have f4 := f 4; have f5 := f 5
            clear f
            clear HI HMORE HVAL HSX HSN HB8 HX8 hsx
            go_wp2
            refine HRET.out _ _ ?_
            refine bodyPost_ret (v := .tuple #[.agg #[.int .i64 0, .bool false, .int .i64 0, .string ⟨#[]⟩, .slice none 0 0, .slice none 0 0], .int .i64 (at1 : Int), .int .i64 sx]) (by simp [results, Tryz.results28, go_sem, *]) rfl ?_
            exact HC.out _ _ _ _ _ _
      case rest =>
        obtain ⟨rfl, rfl, rfl, rfl, mk, mf, mn, ms, mla, mlc, ml, mka, mkc, mks, HBX, HVO, HMN, HFC⟩ := hcut
        have HV9 : Hid (wc.heap[vb]? = some (.cells (kcells ka xn kc) 36 (0, 0))) := by
          have := v.Fresh.at HFC.out HL.out.vb
          rw [HBW.out] at this
          exact this
        have HOW : Hid (wc.ownsRow (vb + 1) 69 7 (.slice ka xn kc) xn (v.pcells xs)) := by
          have := v.owns_move HL.out.own HFC.out
          rw [HBW.out] at this
          exact this
        have HSZ2 : Hid (vb + 1 ≤ wc.heap.size) := by have := HVB.out; have := HFC.out.size; rw [Hid]; omega
        have HMR : Hid (∀ (W4 : World) (g2 cap : Nat) (o : Obj), W4.ownsRow (vb + 1) 69 7 (.slice (some ⟨g2, 0, none⟩) (xn + 1) cap) (xn + 1) (v.pcells xs ++ v.pcellsOf (kk, (v.M.mk mk mf mn ms mla mlc ml mka mkc mks))) → (wc.alloc o).grownBy W4 (Value.slice ka xn kc).ownBlock → ((Value.slice ka xn kc).ownBlock = some g2 ∨ g2 = (wc.alloc o).heap.size) →
            RKeysAt w (W4.setCell ⟨vb, 5, none⟩ (.slice (some ⟨g2, 0, none⟩) (xn + 1) cap)) R ind ins at0 e0 sz vb (xs ++ [(kk, (v.M.mk mk mf mn ms mla mlc ml mka mkc mks))]) nx (some ⟨g2, 0, none⟩) cap) := fun W4 g2 cap o k5 k6 k7 => by
          rw [HKK.out] at k5 ⊢
          exact HMORE.out _ W4 m (v.M.mk mk mf mn ms mla mlc ml mka mkc mks) _ g2 cap HEN.out HK0.out HMK.out.1 rfl HVO.out (HMN.out.move ((Fresh.refl _).alloc o)) (HFC.out.alloc o) k5 k6 k7
        obtain ⟨x0, x1, x2, x3, x4, x5, _, _⟩ := six_facts HBX.out
        obtain ⟨y0, y1, y2, y3, y4, y5, _, _⟩ := six_facts HV9.out
        have HN7 := Lib.hid (World.news_of_block (at_new wc (.cells #[.string kk, .int .i64 mk, .bool mf, .int .i64 mn, .string ms, .slice mla ml.length mlc, .slice mka mks.length mkc] 69)))
        clear HVM HMORE HVAL HBL HFZ HRZ HBZ
        go_wp2_with (at_builtin; refine Hid.out ?_)
        refine Lib.hid ?_
        refine wpList_append_lies _ rfl _ _ 34 rfl (vb + 1) 69 i0 _ 7 104 Tryz.underlying34 hii hz0 hz1 hz2 hzc (by decide) (.slice ka xn kc) xn (v.pcells xs) rfl (World.ownsRow.alloc HOW.out _) ⟨wc.heap.size, 0, none⟩ 1 1 [.string kk, .int .i64 mk, .bool mf, .int .i64 mn, .string ms, .slice mla ml.length mlc, .slice mka mks.length mkc] rfl rfl HN7.out (fun u hu => by
          simp only [List.mem_cons, List.not_mem_nil, or_false] at hu
          rcases hu with rfl | rfl | rfl | rfl | rfl | rfl | rfl <;> rfl) (by decide) (by have := HXL.out; unfold maxLen; omega) (by have := HXL.out; omega) (by rw [World.size_alloc]; have := HSZ2.out; omega) _ rfl ?_
        intro g2 cap w4 hown hgrow hat hlt4
        have HL2 := Lib.hid (HMR.out w4 g2 cap _ hown hgrow hat)
        have hlo : ∀ k, (Value.slice ka xn kc).ownBlock = some k → vb + 1 ≤ k ∧ k < wc.heap.size := fun k e => World.ownsRow.lt HOW.out k e
        have hv4 := ((Wr.refl (fun k => vb + 1 ≤ k) _).grown hgrow (fun k e => .inl (hlo k e).1)).at (by omega) (v.at_alloc HV9.out)
        obtain ⟨_, _, _, _, _, _, fz, _⟩ := six_facts hv4
        have fz5 := fz 5
        clear hown hgrow hat hlt4 HN7 HMR HOW hlo hv4 fz HBX HV9 x0 x1 x2 x3 x4 x5 y0 y1 y2 y3 y4 y5
        go_wp2
        exact HNXT.out _ _ _ _ HL2.out _ _ _ _ _ _ _ _ _ _ _ _ _ _ _ _ _ _ _ _ _ _ _ _ _ _ _ _ _ _ _ _ _ _ _ _ _ _ _ _ _ _ _ _ _ _ _ _ _ _ _ _ _ _ _ _ _ _ _ _ _ _ _ _ _ _ _ _ _ _ _ _ _ _ _ _ _ _ _ _ _ _ _ _ _ _ _ _ _ _ _ _ _ _ _ _ _ _ _ _ _ _ _ _ _ _ _ _ _ _ _ _ _ _ _ _ _ _ _ _ _ _ _ _ _ _ _ _ _ _ _ _ _ _ _ _ _ _ _ _ _ _ _ _ _ _ _ _ _ _ _ _ _ _ _ _ _ _ _ _ _ _ _ _ _ _ _ _ _ _ _ _ _ _ _ _ _ _ _ _ _ _ _ _ _ _ _ _ _ _ _ _ _ _ _ _
end y
end Go.Proofs.YtcljplkkgpjhlaaGreatDoorR
