/-
  Parts of the proof: YRMid.
-/
import Derived.Test.YtcljplkkgpjhlaaGreatDoorRCat29
import Derived.Deep.CutBlock
import Derived.Deep.CutRange
import Derived.Deep.DeepCutAuto
set_option maxRecDepth 100000
set_option maxHeartbeats 8000000
namespace Go.Proofs.YtcljplkkgpjhlaaGreatDoorR
namespace y
open Go.ChangeShapes Go.WideShapes Go.ChangeAt Go.RowKit
attribute [local go_sem ↓] Go.wp_at_zero Go.wp_at_succ
variable {w : World}
theorem keys_mid (cd : Code) (hcd : Tryz.f28.body.bind (codeAt 29) = some cd) (Q : Exit → Act → World → Prop) (R : List Rw) (ind ins at0 e0 sz vb at1 nx xn g c rl : Nat) (xs : List (ByteArray × v.M)) (ka : Option Addr) (kc : Nat) (w wr : World) (l : List UInt8) (s : ByteArray) (NM : List ByteArray) (BK : Res) (VM : Ent → Res)
    (t1 t2 t4 t5 t6 t7 t9 t10 t13 t14 t15 t16 t20 t21 t22 t23 t24 t25 t26 t27 t28 t29 t30 t31 t32 t33 t34 t35 t36 t37 t38 t39 t40 t41 t42 t43 t44 t45 t46 t47 t48 t49 t50 t51 t52 t53 t54 t55 t56 t57 t58 t59 t60 t61 t62 t63 t64 t65 t66 t67 t68 t69 t70 t71 t72 t73 t74 t75 t76 t77 t78 t79 t80 t81 t82 t83 t84 t85 t86 t87 t88 t89 t90 t91 t92 t93 t94 t95 t96 t97 t98 t99 t100 t101 t102 t103 t104 t105 t106 t107 t108 t109 t110 t111 t112 t113 t114 t115 t116 t117 t118 t119 t120 t121 t122 t123 t124 t125 t126 t127 t128 t129 t130 t131 t132 t133 t134 t135 t136 t137 t138 t139 t140 t141 t142 t143 t144 t145 t146 t147 t148 t149 t150 t151 t152 t153 t154 t155 t156 t157 t158 t159 t160 t161 t162 t163 t164 t165 t166 t167 t168 t169 t170 t171 t172 t173 t174 t175 t176 t177 t178 t179 t180 t181 t182 t183 t184 t185 t186 t187 t188 t189 t190 t191 t192 t193 t194 t195 t196 t197 t198 t199 t200 t201 t202 t203 t204 t205 t206 t207 t208 t209 t210 t211 t212 t213 t214 t215 t216 t217 t218 t219 t220 t221 t222 t223 t224 t225 t226 t227 t228 t229 t230 t231 t232 t233 t234 t235 t236 t237 t238 t239 t240 t241 t242 t243 t244 t245 t246 t247 t248 t249 t250 t251 t252 t253 t254 t255 t256 t257 t258 t259 t260 t261 t262 t263 t264 t265 t266 t267 t268 t269 t270 t271 t272 t273 t274 t275 : Value)
    (hin : ins < 32) (hl9 : l.length ≤ 90000) (htl : s.size = l.length) (hs9 : s.size ≤ 90000) (h1m : at1 ≤ 1000000) (hlr : at1 < rl)
    (d3 : wr.cell? ⟨g, at1 * 4 + 3, none⟩ = some (.string s)) (HSZ : Hid (w.heap.size = sz)) (HBW : Hid (xs.length = xn)) (HL : Hid (RKeysAt w wr R ind ins at0 e0 sz vb xs at1 ka kc)) (HTX : Hid (s.data.toList = l)) (HXL : Hid (xn + 1 ≤ 1000000)) (HCOD : Hid ((splitM l).2 = (entM l).1)) (_HTXL : Hid (s = tx l))
    (HSPL : Hid (Calls Tryz.prog 58 #[.string (s)] wr fun e w' => e = .returned (.tuple #[.int .i64 (splitM l).1, .int .i64 (splitM l).2]) ∧ Fresh wr w'))
    (HCODE : Hid ((entM l).1 ≠ 0 → pairs ind ins (cutP R at0 e0) [] = .error (at1, (entM l).1)))
    (HNONE : Hid (entM l = (0, none) → pairs ind ins (cutP R at0 e0) [] = .error (at1, 6)))
    (HKEYE : Hid (∀ m : Ent, entM l = (0, some m) → keyE m (NM) ≠ 0 → pairs ind ins (cutP R at0 e0) [] = .error (at1, keyE m (NM))))
    (HVAL : Hid (∀ (m : Ent) (x : Nat × Int), entM l = (0, some m) → keyE m (NM) = 0 → VM m = .error x → pairs ind ins (cutP R at0 e0) [] = .error x))
    (HMORE : Hid (∀ (W3 W4 : World) (e : Ent) (m : v.M) (y : v.V) (g2 cap : Nat), entM l = (0, some e) → keyE e (NM) = 0 → e.key.length ≤ 90000 → m.plain = y → VM e = .ok y → m.New wr.heap.size W3 → Fresh wr W3 → W4.ownsRow (vb + 1) 69 7 (.slice (some ⟨g2, 0, none⟩) (xn + 1) cap) (xn + 1) (v.pcells xs ++ v.pcellsOf (tx e.key, m)) → W3.grownBy W4 (Value.slice ka xn kc).ownBlock → ((Value.slice ka xn kc).ownBlock = some g2 ∨ g2 = W3.heap.size) → RKeysAt w (W4.setCell ⟨vb, 5, none⟩ (.slice (some ⟨g2, 0, none⟩) (xn + 1) cap)) R ind ins at0 e0 sz vb (xs ++ [(tx e.key, m)]) nx (some ⟨g2, 0, none⟩) cap))
    (HTOLD : Hid (∀ p x, BK = .error (p, x) → x ≠ 0))
    (HGET : Hid (∀ (key : ByteArray) (W : World), Fresh wr W → Calls Tryz.prog 62 #[.agg #[.int .i64 5, .bool false, .int .i64 0, .string ⟨#[]⟩, .slice none 0 0, .slice ka xn kc], .string key] W (RGetP W key (NM))))
    (HVM : Hid (∀ m : Ent, VM m = if m.behind = [] then BK else if (scM m.behind (ins + 1)).1 ≠ 0 then .error (at1, (scM m.behind (ins + 1)).1) else if at1 + 1 < nx then .error (at1 + 1, 6) else .ok (scM m.behind (ins + 1)).2))
    (HBL : Hid (∀ W : World, Fresh wr W → Calls Tryz.prog 28 #[.slice (some ⟨g, 0, none⟩) rl c, .int .i64 ((at1 : Int) + 1), .int .i64 (nx : Int), .int .i64 ((ins : Int) + 1)] W (RBP W (BK))))
    (HRET : Hid (∀ (a : Act) (W : World), bodyPost Tryz.prog Tryz.f28 (RBIs w (pairs ind ins (cutP R at0 e0) [])) Exit.ret a W → Q Exit.ret a W))
    (HNXT : Hid (∀ (xs2 : List (ByteArray × v.M)) (ka2 : Option Addr) (kc2 : Nat) (W2 : World), RKeysAt w W2 R ind ins at0 e0 sz vb xs2 nx ka2 kc2 → ∀ (y9 y10 y19 y20 y21 y22 y23 y24 y25 y26 y27 y28 y29 y30 y31 y32 y33 y34 y35 y98 y99 y100 y101 y102 y103 y104 y105 y106 y107 y108 y109 y110 y111 y112 y113 y114 y115 y116 y117 y118 y119 y120 y121 y122 y123 y124 y125 y126 y127 y128 y129 y130 y131 y132 y133 y134 y135 y136 y137 y138 y139 y140 y141 y142 y143 y144 y145 y146 y147 y148 y149 y150 y151 y152 y153 y154 y155 y156 y157 y158 y159 y160 y161 y162 y163 y164 y165 y166 y167 y168 y169 y170 y171 y172 y173 y174 y175 y176 y177 y178 y179 y180 y181 y182 y183 y184 y185 y186 y187 y188 y189 y190 y191 y192 y193 y194 y195 y196 y197 y198 y199 y200 y201 y202 y203 y204 y205 y206 y207 y208 y209 y210 y211 y212 y213 y214 y215 y216 y217 y218 y219 y220 y221 y222 y223 y224 y225 y226 y227 y228 y229 y230 y231 y232 y233 y234 y235 y236 y237 y238 y239 y240 y241 y242 y243 y244 y245 y246 y247 y248 y249 y250 y251 y252 y253 y254 y255 y256 y257 y258 y259 y260 y261 y262 y263 y264 y265 y266 y267 y268 y269 y270 y271 y272 y273 y274 : Value), Q Exit.normal { tmps := #[.slice (some ⟨g, 0, none⟩) rl c, t1, t2, .int .i64 (ins : Int), t4, t5, t6, t7, .pointer (some ⟨sz, 0, none⟩), y9, y10, .int .i64 (ind : Int), .int .i64 5, t13, t14, t15, t16, .pointer (some ⟨vb, 0, none⟩), .int .i64 (nx : Int), y19, y20, y21, y22, y23, y24, y25, y26, y27, y28, y29, y30, y31, y32, y33, y34, y35, t36, t37, t38, t39, t40, t41, t42, t43, t44, t45, t46, t47, t48, t49, t50, t51, t52, t53, t54, t55, t56, t57, t58, t59, t60, t61, t62, t63, t64, t65, t66, t67, t68, t69, t70, t71, t72, t73, t74, t75, t76, t77, t78, t79, t80, t81, t82, t83, t84, t85, t86, t87, t88, t89, t90, t91, t92, t93, t94, t95, t96, t97, y98, y99, y100, y101, y102, y103, y104, y105, y106, y107, y108, y109, y110, y111, y112, y113, y114, y115, y116, y117, y118, y119, y120, y121, y122, y123, y124, y125, y126, y127, y128, y129, y130, y131, y132, y133, y134, y135, y136, y137, y138, y139, y140, y141, y142, y143, y144, y145, y146, y147, y148, y149, y150, y151, y152, y153, y154, y155, y156, y157, y158, y159, y160, y161, y162, y163, y164, y165, y166, y167, y168, y169, y170, y171, y172, y173, y174, y175, y176, y177, y178, y179, y180, y181, y182, y183, y184, y185, y186, y187, y188, y189, y190, y191, y192, y193, y194, y195, y196, y197, y198, y199, y200, y201, y202, y203, y204, y205, y206, y207, y208, y209, y210, y211, y212, y213, y214, y215, y216, y217, y218, y219, y220, y221, y222, y223, y224, y225, y226, y227, y228, y229, y230, y231, y232, y233, y234, y235, y236, y237, y238, y239, y240, y241, y242, y243, y244, y245, y246, y247, y248, y249, y250, y251, y252, y253, y254, y255, y256, y257, y258, y259, y260, y261, y262, y263, y264, y265, y266, y267, y268, y269, y270, y271, y272, y273, y274, t275], defers := [] } W2)) :
    Code.wp Tryz.prog cd Q { tmps := #[.slice (some ⟨g, 0, none⟩) rl c, t1, t2, .int .i64 (ins : Int), t4, t5, t6, t7, .pointer (some ⟨sz, 0, none⟩), t9, t10, .int .i64 (ind : Int), .int .i64 5, t13, t14, t15, t16, .pointer (some ⟨vb, 0, none⟩), .int .i64 (at1 : Int), .int .i64 (nx : Int), t20, t21, t22, t23, t24, t25, t26, t27, t28, t29, t30, t31, t32, t33, t34, t35, t36, t37, t38, t39, t40, t41, t42, t43, t44, t45, t46, t47, t48, t49, t50, t51, t52, t53, t54, t55, t56, t57, t58, t59, t60, t61, t62, t63, t64, t65, t66, t67, t68, t69, t70, t71, t72, t73, t74, t75, t76, t77, t78, t79, t80, t81, t82, t83, t84, t85, t86, t87, t88, t89, t90, t91, t92, t93, t94, t95, t96, t97, t98, t99, t100, t101, t102, t103, t104, t105, t106, t107, t108, t109, t110, t111, t112, t113, t114, t115, t116, t117, t118, t119, t120, t121, t122, t123, t124, t125, t126, t127, t128, t129, t130, t131, t132, t133, t134, t135, t136, t137, t138, t139, t140, t141, t142, t143, t144, t145, t146, t147, t148, t149, t150, t151, t152, t153, t154, t155, t156, t157, t158, t159, t160, t161, t162, t163, t164, t165, t166, t167, t168, t169, t170, t171, t172, t173, t174, t175, t176, t177, t178, t179, t180, t181, t182, t183, t184, t185, t186, t187, t188, t189, t190, t191, t192, t193, t194, t195, t196, t197, t198, t199, t200, t201, t202, t203, t204, t205, t206, t207, t208, t209, t210, t211, t212, t213, t214, t215, t216, t217, t218, t219, t220, t221, t222, t223, t224, t225, t226, t227, t228, t229, t230, t231, t232, t233, t234, t235, t236, t237, t238, t239, t240, t241, t242, t243, t244, t245, t246, t247, t248, t249, t250, t251, t252, t253, t254, t255, t256, t257, t258, t259, t260, t261, t262, t263, t264, t265, t266, t267, t268, t269, t270, t271, t272, t273, t274, t275], defers := [] } wr := by
  have qb : (0 : Int) ≤ (at1 : Int) ∧ (at1 : Int) < (rl : Int) := ⟨by omega, by omega⟩
  have HRO := Lib.hid (HL.out.rb)
  obtain rfl : cd = _ := Option.some.inj (hcd.symm.trans (show Tryz.f28.body.bind (codeAt 29) = some _ from rfl))
  clear hcd
  go_wp2_with fail
  refine HSPL.out.mono ?_
  rintro e w2 ⟨rfl, hf⟩
  have HF2 := Lib.hid hf
  have HR2 : Hid (RBox w2 sz) := v.Fresh.at hf HRO.out
  clear hf HSPL d3
  by_cases hcx : (entM l).1 ≠ 0
  · have gx : ((splitM l).2 != 0) = true := by rw [HCOD.out]; simpa using hcx
    have HI : Hid (pairs ind ins (cutP R at0 e0) [] = .error (at1, (splitM l).2)) := by rw [Hid, HCOD.out]; exact HCODE.out hcx
    have HC : Hid (∀ u0 u1 u2 u3 u4 u5 : Value, RBIs w (pairs ind ins (cutP R at0 e0) []) (.returned (.tuple #[.agg #[.int .i64 0, .bool false, .int .i64 0, .string ⟨#[]⟩, .slice none 0 0, .slice none 0 0], .int .i64 (at1 : Int), .int .i64 (splitM l).2])) ((((((w2.setCell ⟨sz, 0, none⟩ u0).setCell ⟨sz, 1, none⟩ u1).setCell ⟨sz, 2, none⟩ u2).setCell ⟨sz, 3, none⟩ u3).setCell ⟨sz, 4, none⟩ u4).setCell ⟨sz, 5, none⟩ u5)) := by exact close_err2 HI.out rfl HSZ.out (HL.out.fr.trans HF2.out)
    obtain ⟨c0, c1, c2, c3, c4, c5, f, lt⟩ := HR2.out.facts
    have f0 := f 0; have f1 := f 1; have f2 := f 2; have f3 := f 3; have f4 := f 4; have f5 := f 5
    clear f
    generalize (splitM l).2 = cx at *
    clear hcx HI HCOD HVM HMORE HVAL HKEYE HNONE HCODE
    go_wp2
    refine HRET.out _ _ ?_
    refine bodyPost_ret (v := .tuple #[.agg #[.int .i64 0, .bool false, .int .i64 0, .string ⟨#[]⟩, .slice none 0 0, .slice none 0 0], .int .i64 (at1 : Int), .int .i64 cx]) (by simp [results, Tryz.results28, go_sem, *]) rfl ?_
    exact HC.out _ _ _ _ _ _
  have hc0 : (entM l).1 = 0 := by simpa using hcx
  have gx : (splitM l).2 = 0 := by rw [HCOD.out]; exact hc0
  rw [gx]
  clear hcx gx HCOD HCODE
  cases hen : (entM l).2 with
  | none =>
    have hent : entM l = (0, none) := by rw [← hen, ← hc0]
    have e1 : (splitM l).1 = -1 := by rw [krow_none hent]
    have HI := Lib.hid (HNONE.out hent)
    rw [e1]
    have HC : Hid (∀ u0 u1 u2 u3 u4 u5 : Value, RBIs w (pairs ind ins (cutP R at0 e0) []) (.returned (.tuple #[.agg #[.int .i64 0, .bool false, .int .i64 0, .string ⟨#[]⟩, .slice none 0 0, .slice none 0 0], .int .i64 (at1 : Int), .int .i64 6])) ((((((w2.setCell ⟨sz, 0, none⟩ u0).setCell ⟨sz, 1, none⟩ u1).setCell ⟨sz, 2, none⟩ u2).setCell ⟨sz, 3, none⟩ u3).setCell ⟨sz, 4, none⟩ u4).setCell ⟨sz, 5, none⟩ u5)) := by exact close_err2 HI.out rfl HSZ.out (HL.out.fr.trans HF2.out)
    obtain ⟨c0, c1, c2, c3, c4, c5, f, lt⟩ := HR2.out.facts
    have f0 := f 0; have f1 := f 1; have f2 := f 2; have f3 := f 3; have f4 := f 4; have f5 := f 5
    clear f
    clear hen hc0 hent e1 HI HVM HMORE HVAL HKEYE HNONE
    go_wp2
    refine HRET.out _ _ ?_
    refine bodyPost_ret (v := .tuple #[.agg #[.int .i64 0, .bool false, .int .i64 0, .string ⟨#[]⟩, .slice none 0 0, .slice none 0 0], .int .i64 (at1 : Int), .int .i64 6]) (by simp [results, Tryz.results28, go_sem, *]) rfl ?_
    exact HC.out _ _ _ _ _ _
  | some m =>
    have hent : entM l = (0, some m) := by rw [← hen, ← hc0]
    obtain ⟨p, hp⟩ := krow hent
    have e1 : (splitM l).1 = (p : Int) := by rw [hp.sp]
    rw [e1]
    have HKR := Lib.hid hp
    have HEN := Lib.hid hent
    have hpl : p < s.size := by rw [htl]; exact hp.lt
    have HMK : Hid (m.key.length ≤ 90000 ∧ m.behind.length ≤ 90000) := entM_len hent hl9
    have HNMT : Hid (s.extract 0 p = tx (l.take p)) := by rw [Hid, tx_extract, HTX.out]; simp
    clear hen hc0 hent e1 hp HNONE
    have hns : (nm : ByteArray) → s.extract 0 p = nm → ∀ W : World, (Instr.slice 9 (.string s) none (some (.int .i64 (p : Int))) none).run Tryz.prog W = .ok (.string nm) W := fun nm e W => by
      subst e
      have h1 : (p : Int) ≤ (s.size : Int) := by omega
      simp [go_sem, h1]
    obtain ⟨nm, hnm⟩ : ∃ nm, nm = tx (l.take p) := ⟨_, rfl⟩
    have hsl := hns nm (by rw [hnm]; exact HNMT.out)
    clear hns HNMT
    have gp : ¬ (p : Int) < 0 := by omega
    have hpp : (p : Int) ≤ (s.size : Int) := by omega
    have hnsz : nm.size ≤ 90000 := by rw [hnm, tx_size, List.length_take]; omega
    have HHOW : Hid ((m.quoted = true ∧ 0 < nm.size ∧ (∀ h : 0 < nm.size, nm[0] = 34) ∧ ∀ W : World, Calls Tryz.prog 61 #[.string nm] W fun e w' => (∃ z : Int, e = .returned (.tuple #[.string (tx m.key), .int .i64 z, .int .i64 0])) ∧ Fresh W w') ∨
        (m.quoted = false ∧ nm = tx m.key ∧ (∀ h : 0 < nm.size, nm[0] ≠ 34))) := by
      rcases HKR.out.how with ⟨k1, k2, k3, k4⟩ | ⟨k1, k2, k3⟩
      · left
        obtain ⟨t, ht⟩ : ∃ t, l.take p = 34 :: t := by
          cases hh : l.take p with
          | nil => rw [hh] at k2; simp at k2
          | cons a t => rw [hh] at k2; simp at k2; exact ⟨t, by rw [k2]⟩
        refine ⟨k1, by rw [hnm, tx_size, ht]; simp, fun h => ?_, fun W => ?_⟩
        · subst hnm
          have : ∀ (q : List UInt8) (e : l.take p = 34 :: q) (h : 0 < (tx (l.take p)).size), (tx (l.take p))[0] = 34 := fun q e h => by
            simp only [e]; exact (bs_cons 34 q).get
          exact this t ht h
        · have := runq_any (l.take p) W (by rw [List.length_take]; omega)
          rw [k3, k4, ← hnm] at this
          exact this.mono fun e w' k => ⟨⟨_, k.1⟩, k.2⟩
      · right
        refine ⟨k1, by rw [hnm, k2], fun h => ?_⟩
        cases hh : l.take p with
        | nil => rw [hnm, hh, tx_size] at h; simp at h
        | cons a t =>
          rw [hh] at k3
          have ha : a ≠ 34 := fun e => k3 (by rw [e]; rfl)
          subst hnm
          have : ∀ (q : List UInt8) (e : l.take p = a :: q) (h : 0 < (tx (l.take p)).size), (tx (l.take p))[0] = a := fun q e h => by
            simp only [e]; exact (bs_cons a q).get
          rw [this t hh h]; exact ha
    clear hnm
    go_upto_region 42 with (fail)
    go_cut [18, 19, 23, 24, 26, 183] from 98 to 274 (fun a18 a19 a23 a24 a26 a183 wc => a18 = .int .i64 (at1 : Int) ∧ a19 = .int .i64 (nx : Int) ∧ a23 = .string s ∧ a24 = .int .i64 (p : Int) ∧ a26 = .string nm ∧ a183 = .bool m.quoted ∧ w2 = wc)
    case first =>
      rcases HHOW.out with ⟨k1, k2, k3, _⟩ | ⟨k1, k2, k3⟩
      · have k4 := k3 k2
        have g1 : (0 : Int) < (nm.size : Int) := by omega
        have g2 : ((nm[0].toNat : Int) == 34) = true := by rw [k4]; rfl
        clear k3 k4
        go_wp2
        go_meet
        case rel => exact ⟨rfl, rfl, rfl, rfl, rfl, by rw [k1], rfl⟩
      · have K1 := Lib.hid k1
        have K2 := Lib.hid k2
        clear k1 k2
        by_cases k4 : 0 < nm.size
        · have k5 := k3 k4
          have g1 : (0 : Int) < (nm.size : Int) := by omega
          have g2 : ((nm[0].toNat : Int) == 34) = false := beq_eq_false_iff_ne.2 (fun e => k5 (UInt8.toNat_inj.1 (by simpa using (by omega : nm[0].toNat = 34))))
          clear k3 k5
          go_wp2
          go_meet
          case rel => exact ⟨rfl, rfl, rfl, rfl, rfl, by rw [K1.out], rfl⟩
        · have g1 : ¬ (0 : Int) < (nm.size : Int) := by omega
          clear k3
          go_wp2
          go_meet
          case rel => exact ⟨rfl, rfl, rfl, rfl, rfl, by rw [K1.out], rfl⟩
    case rest =>
      obtain ⟨rfl, rfl, rfl, rfl, rfl, rfl, rfl⟩ := hcut
      clear hsl
      obtain ⟨kk, hkk⟩ : ∃ kk, kk = tx m.key := ⟨_, rfl⟩
      have hks : kk.size = m.key.length := by rw [hkk, tx_size]
      have HHK : Hid ((m.quoted = true ∧ m.key.length ≤ 4096 ∧ ∀ W : World, Calls Tryz.prog 61 #[.string nm] W fun e w' => (∃ z : Int, e = .returned (.tuple #[.string kk, .int .i64 z, .int .i64 0])) ∧ Fresh W w') ∨ (m.quoted = false ∧ nm = kk)) := by
        rcases HHOW.out with ⟨k1, _, _, k2⟩ | ⟨k1, k2, _⟩
        · left
          refine ⟨k1, ?_, by rw [hkk]; exact k2⟩
          rcases HKR.out.how with ⟨_, _, k3, k4⟩ | ⟨k3, _, _⟩
          · rw [← k3]; exact (unq_valid k4).2
          · rw [k1] at k3; cases k3
        · right; exact ⟨k1, by rw [k2, hkk]⟩
      have HKEY : Hid (∀ W : World, Calls Tryz.prog 13 #[.string kk] W fun e w' => e = .returned (.bool (keyB m.key)) ∧ Fresh W w') := fun W => by
        rw [hkk]; exact rkey_any m.key W (by have := HMK.out.1; omega)
      have HKK := Lib.hid hkk
      clear hkk HHOW
      go_upto_if 183 with (fail)
      go_cut [18, 19, 23, 24, 26] from 98 to 274 (fun a18 a19 a23 a24 a26 wc => a18 = .int .i64 (at1 : Int) ∧ a19 = .int .i64 (nx : Int) ∧ a23 = .string s ∧ a24 = .int .i64 (p : Int) ∧ a26 = .string kk ∧ Hid (Fresh wr wc) ∧ Hid (keyE m NM = if v.inB kk NM = true then 8 else 0))
      case first =>
        rcases HHK.out with ⟨k1, k2, k3⟩ | ⟨k1, k2⟩
        · have HKQ : Hid (keyE m NM = if v.inB kk NM = true then 8 else 0) := by rw [HKK.out]; exact keyE_q k1 k2
          have HU := Lib.hid k3
          rw [k1]
          clear k1 k2 k3 HHK
          go_wp2_with fail
          refine (HU.out _).mono ?_
          rintro e w3 ⟨⟨z, rfl⟩, hf⟩
          have HF3 : Hid (Fresh wr w3) := HF2.out.trans hf
          clear hf HU
          go_wp2
          go_meet
          case rel => exact ⟨rfl, rfl, rfl, rfl, rfl, HF3.out, HKQ.out⟩
        · subst k2
          have HQF := Lib.hid k1
          rw [k1]
          clear k1 HHK
          go_wp2_with fail
          refine (HKEY.out _).mono ?_
          rintro e w3 ⟨rfl, hf⟩
          have HF3 : Hid (Fresh wr w3) := HF2.out.trans hf
          have HR3 : Hid (RBox w3 sz) := v.Fresh.at hf HR2.out
          clear hf HKEY
          cases hkb : keyB m.key with
          | false =>
            have hk6 : keyE m NM = 6 := by unfold keyE; rw [if_pos ⟨HQF.out, hkb⟩]
            have HI : Hid (pairs ind ins (cutP R at0 e0) [] = .error (at1, 6)) := by
              have := HKEYE.out m HEN.out (by rw [hk6]; decide)
              rw [hk6] at this; exact this
            have HC : Hid (∀ u0 u1 u2 u3 u4 u5 : Value, RBIs w (pairs ind ins (cutP R at0 e0) []) (.returned (.tuple #[.agg #[.int .i64 0, .bool false, .int .i64 0, .string ⟨#[]⟩, .slice none 0 0, .slice none 0 0], .int .i64 (at1 : Int), .int .i64 6])) ((((((w3.setCell ⟨sz, 0, none⟩ u0).setCell ⟨sz, 1, none⟩ u1).setCell ⟨sz, 2, none⟩ u2).setCell ⟨sz, 3, none⟩ u3).setCell ⟨sz, 4, none⟩ u4).setCell ⟨sz, 5, none⟩ u5)) := by exact close_err2 HI.out rfl HSZ.out (HL.out.fr.trans HF3.out)
            obtain ⟨c0, c1, c2, c3, c4, c5, f, lt⟩ := HR3.out.facts
            have f0 := f 0; have f1 := f 1; have f2 := f 2; have f3 := f 3; have f4 := f 4; have f5 := f 5
            clear f
            clear hkb hk6 HI HVM HMORE HVAL HKEYE
            go_wp2
            refine HRET.out _ _ ?_
            refine bodyPost_ret (v := .tuple #[.agg #[.int .i64 0, .bool false, .int .i64 0, .string ⟨#[]⟩, .slice none 0 0, .slice none 0 0], .int .i64 (at1 : Int), .int .i64 6]) (by simp [results, Tryz.results28, go_sem, *]) rfl ?_
            exact HC.out _ _ _ _ _ _
          | true =>
            by_cases h4 : 4096 < m.key.length
            · have hk6 : keyE m NM = 2 := by unfold keyE; rw [if_neg (by simp [hkb]), if_pos h4]
              have HI : Hid (pairs ind ins (cutP R at0 e0) [] = .error (at1, 2)) := by
                have := HKEYE.out m HEN.out (by rw [hk6]; decide)
                rw [hk6] at this; exact this
              have g4 : (4096 : Int) < (nm.size : Int) := by omega
              have HC : Hid (∀ u0 u1 u2 u3 u4 u5 : Value, RBIs w (pairs ind ins (cutP R at0 e0) []) (.returned (.tuple #[.agg #[.int .i64 0, .bool false, .int .i64 0, .string ⟨#[]⟩, .slice none 0 0, .slice none 0 0], .int .i64 (at1 : Int), .int .i64 2])) ((((((w3.setCell ⟨sz, 0, none⟩ u0).setCell ⟨sz, 1, none⟩ u1).setCell ⟨sz, 2, none⟩ u2).setCell ⟨sz, 3, none⟩ u3).setCell ⟨sz, 4, none⟩ u4).setCell ⟨sz, 5, none⟩ u5)) := by exact close_err2 HI.out rfl HSZ.out (HL.out.fr.trans HF3.out)
              obtain ⟨c0, c1, c2, c3, c4, c5, f, lt⟩ := HR3.out.facts
              have f0 := f 0; have f1 := f 1; have f2 := f 2; have f3 := f 3; have f4 := f 4; have f5 := f 5
              clear f
              clear hkb hk6 HI HVM HMORE HVAL HKEYE
              go_wp2
              refine HRET.out _ _ ?_
              refine bodyPost_ret (v := .tuple #[.agg #[.int .i64 0, .bool false, .int .i64 0, .string ⟨#[]⟩, .slice none 0 0, .slice none 0 0], .int .i64 (at1 : Int), .int .i64 2]) (by simp [results, Tryz.results28, go_sem, *]) rfl ?_
              exact HC.out _ _ _ _ _ _
            · have HKQ : Hid (keyE m NM = if v.inB nm NM = true then 8 else 0) := by rw [HKK.out]; exact keyE_p hkb (by omega)
              have g4 : ¬ (4096 : Int) < (nm.size : Int) := by omega
              clear hkb
              go_wp2
              go_meet
              case rel => exact ⟨rfl, rfl, rfl, rfl, rfl, HF3.out, HKQ.out⟩
      case rest =>
        obtain ⟨rfl, rfl, rfl, rfl, rfl, HF3, HKE⟩ := hcut
        refine (‹∀ (a : Act) (w : World), Code.wp Tryz.prog _ Q a w → _›) _ _ ?_
        refine keys_tail _ (by kernel_rfl) Q R ind ins at0 e0 sz vb at1 nx xn g c rl p xs ka kc w wr wc l s kk m NM BK VM _ _ _ _ _ _ _ _ _ _ _ _ _ _ _ _ _ _ _ _ _ _ _ _ _ _ _ _ _ _ _ _ _ _ _ _ _ _ _ _ _ _ _ _ _ _ _ _ _ _ _ _ _ _ _ _ _ _ _ _ _ _ _ _ _ _ _ _ _ _ _ _ _ _ _ _ _ _ _ _ _ _ _ _ _ _ _ _ _ _ _ _ _ _ _ _ _ _ _ _ _ _ _ _ _ _ _ _ _ _ _ _ _ _ _ _ _ _ _ _ _ _ _ _ _ _ _ _ _ _ _ _ _ _ _ _ _ _ _ _ _ _ _ _ _ _ _ _ _ _ _ _ _ _ _ _ _ _ _ _ _ _ _ _ _ _ _ _ _ _ _ _ _ _ _ _ _ _ _ _ _ _ _ _ _ _ _ _ _ _ _ _ _ _ _ _ _ _ _ _ _ _ _ _ _ _ _ _ _ _ _ _ _ _ _ _ _ _ _ _ _ _ _ _ _ _ _ _ _ _ _ _ _ _ _ _ _ _ _ _ _ _ _ _ _ _ _ _ _ _ _ _ _ _ _ _ _ _ _ _ _ _ _ _ _ hin hpl htl hs9 h1m HSZ HBW HL HKR HEN HMK HTX HKK HXL HF3 HKE HKEYE HVAL HMORE HTOLD HGET HVM HBL HRET HNXT
end y
end Go.Proofs.YtcljplkkgpjhlaaGreatDoorR
