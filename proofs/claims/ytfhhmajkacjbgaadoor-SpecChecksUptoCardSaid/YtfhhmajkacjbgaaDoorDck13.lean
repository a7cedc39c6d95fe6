/-
  bosunlaw14.SpecChecks: its last test (printed by a script).
  Two pods as the document has them, in boxes made in whatever order.
  Two pods turned into the document's, in whatever order Go takes it (bosunlaw14.SpecChecks, region 3; printed by a script).
  Two pods turned into the document's, in whatever order Go takes it: its eight operations (printed by a script).
-/
import Derived.Test.YtfhhmajkacjbgaaDoorDck08
import Derived.Test.YtfhhmajkacjbgaaDoorDck09
import Derived.Test.YtfhhmajkacjbgaaDoorDck11
import Derived.Test.YtfhhmajkacjbgaaDoorDck12
import Derived.OrdersHeld
import Derived.Laws.World
namespace Go.Proofs.YtfhhmajkacjbgaaDoor
open Go.ChangeShapes Go.WideShapes Go.ChangeAt Go.RowKit
attribute [local go_sem ↓] Go.wp_at_zero Go.wp_at_succ

theorem pod_six {w : World} {b t : Nat} {p : PM} (h : w.heap[b]? = some (podObj p t)) :
    w.cell? ⟨b, 0, none⟩ = some (.string p.name) ∧ w.cell? ⟨b, 1, none⟩ = some (.string p.ns) ∧ w.cell? ⟨b, 2, none⟩ = some (.int .i64 p.restart) ∧ w.cell? ⟨b, 3, none⟩ = some (.int .i64 p.grace) ∧ w.cell? ⟨b, 4, none⟩ = some (.bool p.host) ∧ w.cell? ⟨b, 5, none⟩ = some (.slice p.a p.cs.length p.cap) := (box6p h).1
set_option maxRecDepth 100000 in
set_option maxHeartbeats 40000000 in
theorem checks_tail (cd : Code) (hcd : Tryd.f3.body.bind (codeAt 4) = some cd) (Q : Exit → Act → World → Prop) (w W : World) (b b2 zx zy : Nat) (p q m n : PM)
    (t0 t1 t4 t7 t8 t9 t10 t11 t12 t13 t14 t15 t16 t17 t18 t19 t20 t21 t22 t23 t24 t25 t26 t27 t28 t29 t30 t31 t32 t33 t34 t35 t36 t37 t38 t39 t40 t41 t42 t43 t44 t45 t46 t47 t48 t49 : Value)
    (HT : Hid (Tabs w)) (HP : Hid (p.At w)) (HQ : Hid (q.At w)) (HLP : Hid p.Low) (HLQ : Hid q.Low) (HS : Hid p.pd.Sml)
    (HMD : Hid (m.pd = p.pd)) (HND : Hid (n.pd = q.pd)) (HM : Hid (m.At W)) (HN : Hid (n.At W)) (HF : Hid (Fresh w W))
    (HB1 : Hid (W.heap[b]? = some (podObj p 25))) (HB2 : Hid (W.heap[b2]? = some (podObj q 25))) (HB3 : Hid (W.heap[zx]? = some (podObj m 30))) (HB4 : Hid (W.heap[zy]? = some (podObj n 30)))
    (HRET : Hid (∀ a W, bodyPost Tryd.prog Tryd.f3 (fun e w' => e = .returned (.bool true) ∧ Fresh w w') Exit.ret a W → Q Exit.ret a W)) :
    Code.wp Tryd.prog cd Q { tmps := #[t0, t1, .pointer (some ⟨b, 0, none⟩), .pointer (some ⟨b2, 0, none⟩), t4, .pointer (some ⟨zx, 0, none⟩), .pointer (some ⟨zy, 0, none⟩), t7, t8, t9, t10, t11, t12, t13, t14, t15, t16, t17, t18, t19, t20, t21, t22, t23, t24, t25, t26, t27, t28, t29, t30, t31, t32, t33, t34, t35, t36, t37, t38, t39, t40, t41, t42, t43, t44, t45, t46, t47, t48, t49], defers := [] } W := by
  obtain rfl : cd = _ := Option.some.inj (hcd.symm.trans (show Tryd.f3.body.bind (codeAt 4) = some _ from rfl))
  clear hcd
  have HLM := Lib.hid (low_pd HMD.out HLP.out)
  have HLN := Lib.hid (low_pd HND.out HLQ.out)
  have HG0 : Hid (Fresh W W.drew) := (Fresh.refl W).drew
  have HA1 := Lib.hid (awake14_any W.drew (HT.out.move HF.out.drew))
  have HC2 := Lib.hid (fun X (f : Fresh W X) => check_any p X (HT.out.move (HF.out.trans f)) (HP.out.move (HF.out.trans f)) HS.out (fun c hc => (HP.out.ins c hc).room))
  have HC3 : Hid (∀ X, Fresh W X → Calls Tryd.prog 10 #[m.val] X fun e w' => e = .returned (.int .i64 (podE p.pd)) ∧ Fresh X w') := fun X f => by
    have := rcheck_any m X (HM.out.move f) (by rw [HMD.out]; exact HS.out) HLM.out.ir HLM.out.ig
    rw [HMD.out] at this
    exact this
  have HC4 := Lib.hid (fun X (f : Fresh W X) => default_any p X (HP.out.move (HF.out.trans f)) HLP.out)
  have HC5 : Hid (∀ (o : PM) X, o.pd = defP p.pd → o.At X → Calls Tryd.prog 8 #[.agg #[.string o.name, .string o.ns, .int .i64 o.restart, .int .i64 o.grace, .bool o.host, .slice o.a o.cs.length o.cap]] X fun e w' => ∃ x : PM, e = .returned x.val ∧ x.pd = o.pd ∧ x.At w' ∧ Fresh X w') := fun o X hd ha => of_any o X ha (low_def hd HLP.out)
  have HC6 : Hid (∀ X, Fresh W X → Calls Tryd.prog 13 #[m.val] X fun e w' => ∃ y : PM, e = .returned y.val ∧ y.pd = defP p.pd ∧ y.At w' ∧ Fresh X w') := fun X f =>
    (rdefault_any m X (HM.out.move f) HLM.out.len).mono (fun e w' ⟨a, cap, h1, h2, h3⟩ => ⟨m.dft a cap, h1, by rw [dft_pd, HMD.out], h2, h3⟩)
  have HSAME : Hid (∀ (x y : PM) X {o : Pd}, x.pd = o → o = defP p.pd → y.pd = defP p.pd → x.At X → y.At X → Calls Tryd.prog 11 #[.agg #[.string x.name, .string x.ns, .int .i64 x.restart, .int .i64 x.grace, .bool x.host, .slice x.a x.cs.length x.cap], .agg #[.string y.name, .string y.ns, .int .i64 y.restart, .int .i64 y.grace, .bool y.host, .slice y.a y.cs.length y.cap]] X fun e w' => e = .returned (.bool true) ∧ Fresh X w') := fun x y X o hx ho hy hxa hya => by
    have hxd := hx.trans ho
    have := rsame_any x y X hxa hya (low_def hxd HLP.out) (low_def hy HLP.out)
    rw [hxd, hy, sameP_refl] at this
    exact this
  have HC8 := Lib.hid (fun X (f : Fresh W X) => same_any p q X (HP.out.move (HF.out.trans f)) (HQ.out.move (HF.out.trans f)) HLP.out HLQ.out)
  have HC9 : Hid (∀ X, Fresh W X → Calls Tryd.prog 11 #[m.val, n.val] X fun e w' => e = .returned (.bool (sameP p.pd q.pd)) ∧ Fresh X w') := fun X f => by
    have := rsame_any m n X (HM.out.move f) (HN.out.move f) HLM.out HLN.out
    rw [HMD.out, HND.out] at this
    exact this
  have HC10 : Hid (∀ X, Fresh W X → Calls Tryd.prog 14 #[p.val, p.val] X fun e w' => e = .returned (.bool true) ∧ Fresh X w') := fun X f => by
    have := same_any p p X (HP.out.move (HF.out.trans f)) (HP.out.move (HF.out.trans f)) HLP.out HLP.out
    rw [sameP_refl] at this
    exact this
  have HKP : Hid (∀ w', Fresh W w' → (w'.cell? ⟨b, 0, none⟩ = some (.string p.name) ∧ w'.cell? ⟨b, 1, none⟩ = some (.string p.ns) ∧ w'.cell? ⟨b, 2, none⟩ = some (.int .i64 p.restart) ∧ w'.cell? ⟨b, 3, none⟩ = some (.int .i64 p.grace) ∧ w'.cell? ⟨b, 4, none⟩ = some (.bool p.host) ∧ w'.cell? ⟨b, 5, none⟩ = some (.slice p.a p.cs.length p.cap)) ∧ (w'.cell? ⟨b2, 0, none⟩ = some (.string q.name) ∧ w'.cell? ⟨b2, 1, none⟩ = some (.string q.ns) ∧ w'.cell? ⟨b2, 2, none⟩ = some (.int .i64 q.restart) ∧ w'.cell? ⟨b2, 3, none⟩ = some (.int .i64 q.grace) ∧ w'.cell? ⟨b2, 4, none⟩ = some (.bool q.host) ∧ w'.cell? ⟨b2, 5, none⟩ = some (.slice q.a q.cs.length q.cap)) ∧ (w'.cell? ⟨zx, 0, none⟩ = some (.string m.name) ∧ w'.cell? ⟨zx, 1, none⟩ = some (.string m.ns) ∧ w'.cell? ⟨zx, 2, none⟩ = some (.int .i64 m.restart) ∧ w'.cell? ⟨zx, 3, none⟩ = some (.int .i64 m.grace) ∧ w'.cell? ⟨zx, 4, none⟩ = some (.bool m.host) ∧ w'.cell? ⟨zx, 5, none⟩ = some (.slice m.a m.cs.length m.cap)) ∧ (w'.cell? ⟨zy, 0, none⟩ = some (.string n.name) ∧ w'.cell? ⟨zy, 1, none⟩ = some (.string n.ns) ∧ w'.cell? ⟨zy, 2, none⟩ = some (.int .i64 n.restart) ∧ w'.cell? ⟨zy, 3, none⟩ = some (.int .i64 n.grace) ∧ w'.cell? ⟨zy, 4, none⟩ = some (.bool n.host) ∧ w'.cell? ⟨zy, 5, none⟩ = some (.slice n.a n.cs.length n.cap))) := fun X f => ⟨pod_six (f.at HB1.out), pod_six (f.at HB2.out), pod_six (f.at HB3.out), pod_six (f.at HB4.out)⟩
  rw [show p.val = .agg #[.string p.name, .string p.ns, .int .i64 p.restart, .int .i64 p.grace, .bool p.host, .slice p.a p.cs.length p.cap] from rfl] at HC2 HC4 HC8 HC10
  rw [show q.val = .agg #[.string q.name, .string q.ns, .int .i64 q.restart, .int .i64 q.grace, .bool q.host, .slice q.a q.cs.length q.cap] from rfl] at HC8
  rw [show m.val = .agg #[.string m.name, .string m.ns, .int .i64 m.restart, .int .i64 m.grace, .bool m.host, .slice m.a m.cs.length m.cap] from rfl] at HC3 HC6 HC9
  rw [show n.val = .agg #[.string n.name, .string n.ns, .int .i64 n.restart, .int .i64 n.grace, .bool n.host, .slice n.a n.cs.length n.cap] from rfl] at HC9
  generalize podE p.pd = E at *
  generalize sameP p.pd q.pd = SV at *
  obtain ⟨⟨a0_0, a1_0, a2_0, a3_0, a4_0, a5_0⟩, ⟨b0_0, b1_0, b2_0, b3_0, b4_0, b5_0⟩, ⟨c0_0, c1_0, c2_0, c3_0, c4_0, c5_0⟩, d0_0, d1_0, d2_0, d3_0, d4_0, d5_0⟩ := HKP.out W (Fresh.refl _)
  go_wp2_with (fail)
  go_region_held3 (fun w' => (w'.cell? ⟨b, 0, none⟩ = some (.string p.name) ∧ w'.cell? ⟨b, 1, none⟩ = some (.string p.ns) ∧ w'.cell? ⟨b, 2, none⟩ = some (.int .i64 p.restart) ∧ w'.cell? ⟨b, 3, none⟩ = some (.int .i64 p.grace) ∧ w'.cell? ⟨b, 4, none⟩ = some (.bool p.host) ∧ w'.cell? ⟨b, 5, none⟩ = some (.slice p.a p.cs.length p.cap)) ∧ (w'.cell? ⟨b2, 0, none⟩ = some (.string q.name) ∧ w'.cell? ⟨b2, 1, none⟩ = some (.string q.ns) ∧ w'.cell? ⟨b2, 2, none⟩ = some (.int .i64 q.restart) ∧ w'.cell? ⟨b2, 3, none⟩ = some (.int .i64 q.grace) ∧ w'.cell? ⟨b2, 4, none⟩ = some (.bool q.host) ∧ w'.cell? ⟨b2, 5, none⟩ = some (.slice q.a q.cs.length q.cap)) ∧ (w'.cell? ⟨zx, 0, none⟩ = some (.string m.name) ∧ w'.cell? ⟨zx, 1, none⟩ = some (.string m.ns) ∧ w'.cell? ⟨zx, 2, none⟩ = some (.int .i64 m.restart) ∧ w'.cell? ⟨zx, 3, none⟩ = some (.int .i64 m.grace) ∧ w'.cell? ⟨zx, 4, none⟩ = some (.bool m.host) ∧ w'.cell? ⟨zx, 5, none⟩ = some (.slice m.a m.cs.length m.cap)) ∧ (w'.cell? ⟨zy, 0, none⟩ = some (.string n.name) ∧ w'.cell? ⟨zy, 1, none⟩ = some (.string n.ns) ∧ w'.cell? ⟨zy, 2, none⟩ = some (.int .i64 n.restart) ∧ w'.cell? ⟨zy, 3, none⟩ = some (.int .i64 n.grace) ∧ w'.cell? ⟨zy, 4, none⟩ = some (.bool n.host) ∧ w'.cell? ⟨zy, 5, none⟩ = some (.slice n.a n.cs.length n.cap))) (go_keep)
    (first
      | (go_at_call 7; (with_reducible refine (HA1.out).mono ?_); rintro e V1 ⟨rfl, hf⟩; have HG1 := Lib.hid (HG0.out.trans hf); obtain ⟨⟨a0_1, a1_1, a2_1, a3_1, a4_1, a5_1⟩, ⟨b0_1, b1_1, b2_1, b3_1, b4_1, b5_1⟩, ⟨c0_1, c1_1, c2_1, c3_1, c4_1, c5_1⟩, d0_1, d1_1, d2_1, d3_1, d4_1, d5_1⟩ := HKP.out _ HG1.out; clear hf)
      | (go_at_call 9; (with_reducible refine (HC2.out _ HG1.out).mono ?_); rintro e V2 ⟨rfl, hf⟩; have HG2 := Lib.hid (HG1.out.trans hf); obtain ⟨⟨a0_2, a1_2, a2_2, a3_2, a4_2, a5_2⟩, ⟨b0_2, b1_2, b2_2, b3_2, b4_2, b5_2⟩, ⟨c0_2, c1_2, c2_2, c3_2, c4_2, c5_2⟩, d0_2, d1_2, d2_2, d3_2, d4_2, d5_2⟩ := HKP.out _ HG2.out; clear hf)
      | (go_at_call 10; (with_reducible refine (HC3.out _ HG2.out).mono ?_); rintro e V3 ⟨rfl, hf⟩; have HG3 := Lib.hid (HG2.out.trans hf); obtain ⟨⟨a0_3, a1_3, a2_3, a3_3, a4_3, a5_3⟩, ⟨b0_3, b1_3, b2_3, b3_3, b4_3, b5_3⟩, ⟨c0_3, c1_3, c2_3, c3_3, c4_3, c5_3⟩, d0_3, d1_3, d2_3, d3_3, d4_3, d5_3⟩ := HKP.out _ HG3.out; clear hf)
      | (go_at_call 12; (with_reducible refine (HC4.out _ HG3.out).mono ?_); rintro e V4 ⟨o, rfl, hod, hoa, hf⟩; have HG4 := Lib.hid (HG3.out.trans hf); obtain ⟨⟨a0_4, a1_4, a2_4, a3_4, a4_4, a5_4⟩, ⟨b0_4, b1_4, b2_4, b3_4, b4_4, b5_4⟩, ⟨c0_4, c1_4, c2_4, c3_4, c4_4, c5_4⟩, d0_4, d1_4, d2_4, d3_4, d4_4, d5_4⟩ := HKP.out _ HG4.out; have HOD := Lib.hid hod; have HOA := Lib.hid hoa; clear hod hoa; rw [show o.val = .agg #[.string o.name, .string o.ns, .int .i64 o.restart, .int .i64 o.grace, .bool o.host, .slice o.a o.cs.length o.cap] from rfl]; clear hf)
      | (go_at_call 8; (with_reducible refine (HC5.out o V4 HOD.out HOA.out.at).mono ?_); rintro e V5 ⟨x, rfl, hxd, hxa, hf⟩; have HG5 := Lib.hid (HG4.out.trans hf); obtain ⟨⟨a0_5, a1_5, a2_5, a3_5, a4_5, a5_5⟩, ⟨b0_5, b1_5, b2_5, b3_5, b4_5, b5_5⟩, ⟨c0_5, c1_5, c2_5, c3_5, c4_5, c5_5⟩, d0_5, d1_5, d2_5, d3_5, d4_5, d5_5⟩ := HKP.out _ HG5.out; have HXD := Lib.hid hxd; have HXA := Lib.hid hxa; clear hxd hxa; rw [show x.val = .agg #[.string x.name, .string x.ns, .int .i64 x.restart, .int .i64 x.grace, .bool x.host, .slice x.a x.cs.length x.cap] from rfl]; clear hf)
      | (go_at_call 13; (with_reducible refine (HC6.out _ HG5.out).mono ?_); rintro e V6 ⟨y, rfl, hyd, hya, hf⟩; have HG6 := Lib.hid (HG5.out.trans hf); obtain ⟨⟨a0_6, a1_6, a2_6, a3_6, a4_6, a5_6⟩, ⟨b0_6, b1_6, b2_6, b3_6, b4_6, b5_6⟩, ⟨c0_6, c1_6, c2_6, c3_6, c4_6, c5_6⟩, d0_6, d1_6, d2_6, d3_6, d4_6, d5_6⟩ := HKP.out _ HG6.out; have HXB := Lib.hid (HXA.out.move hf); have HC7 := Lib.hid (HSAME.out x y V6 HXD.out HOD.out hyd HXB.out hya); clear hyd hya; rw [show y.val = .agg #[.string y.name, .string y.ns, .int .i64 y.restart, .int .i64 y.grace, .bool y.host, .slice y.a y.cs.length y.cap] from rfl]; clear hf)
      | (go_at_call 11; (with_reducible refine (HC7.out).mono ?_); rintro e V7 ⟨rfl, hf⟩; have HG7 := Lib.hid (HG6.out.trans hf); obtain ⟨⟨a0_7, a1_7, a2_7, a3_7, a4_7, a5_7⟩, ⟨b0_7, b1_7, b2_7, b3_7, b4_7, b5_7⟩, ⟨c0_7, c1_7, c2_7, c3_7, c4_7, c5_7⟩, d0_7, d1_7, d2_7, d3_7, d4_7, d5_7⟩ := HKP.out _ HG7.out; clear hf)
      | (go_at_call 14; (with_reducible refine (HC8.out _ HG7.out).mono ?_); rintro e V8 ⟨rfl, hf⟩; have HG8 := Lib.hid (HG7.out.trans hf); obtain ⟨⟨a0_8, a1_8, a2_8, a3_8, a4_8, a5_8⟩, ⟨b0_8, b1_8, b2_8, b3_8, b4_8, b5_8⟩, ⟨c0_8, c1_8, c2_8, c3_8, c4_8, c5_8⟩, d0_8, d1_8, d2_8, d3_8, d4_8, d5_8⟩ := HKP.out _ HG8.out; clear hf)
      | (go_at_call 11; (with_reducible refine (HC9.out _ HG8.out).mono ?_); rintro e V9 ⟨rfl, hf⟩; have HG9 := Lib.hid (HG8.out.trans hf); obtain ⟨⟨a0_9, a1_9, a2_9, a3_9, a4_9, a5_9⟩, ⟨b0_9, b1_9, b2_9, b3_9, b4_9, b5_9⟩, ⟨c0_9, c1_9, c2_9, c3_9, c4_9, c5_9⟩, d0_9, d1_9, d2_9, d3_9, d4_9, d5_9⟩ := HKP.out _ HG9.out; clear hf)
      | (go_at_call 14; (with_reducible refine (HC10.out _ HG9.out).mono ?_); rintro e V10 ⟨rfl, hf⟩; have HG10 := Lib.hid (HG9.out.trans hf); obtain ⟨⟨a0_10, a1_10, a2_10, a3_10, a4_10, a5_10⟩, ⟨b0_10, b1_10, b2_10, b3_10, b4_10, b5_10⟩, ⟨c0_10, c1_10, c2_10, c3_10, c4_10, c5_10⟩, d0_10, d1_10, d2_10, d3_10, d4_10, d5_10⟩ := HKP.out _ HG10.out; clear hf))
  go_wp2
  all_goals try (exfalso; omega)
  all_goals refine HRET.out _ _ ?_
  all_goals go_ret
  all_goals exact ⟨rfl, HF.out.trans HG10.out⟩
end Go.Proofs.YtfhhmajkacjbgaaDoor
namespace Go.Proofs.YtfhhmajkacjbgaaDoor
open Go.ChangeShapes Go.WideShapes Go.ChangeAt Go.RowKit

abbrev zero6 : Obj := .cells #[.string ⟨#[]⟩, .string ⟨#[]⟩, .int .i64 0, .int .i64 0, .bool false, .slice none 0 0] 30
structure Pre3 (w V : World) (b b2 : Nat) (p q m n : PM) (Bm Bn : Nat) : Prop where
  om : OAt w V Bm m
  on : OAt w V Bn n
  h1 : V.heap[b]? = some (podObj p 25)
  h2 : V.heap[b2]? = some (podObj q 25)
  fr : Fresh w V
structure Res (w Z : World) (b b2 zx zy : Nat) (p q m n : PM) : Prop where
  ma : m.At Z
  na : n.At Z
  fr : Fresh w Z
  h1 : Z.heap[b]? = some (podObj p 25)
  h2 : Z.heap[b2]? = some (podObj q 25)
  h3 : Z.heap[zx]? = some (podObj m 30)
  h4 : Z.heap[zy]? = some (podObj n 30)
section
variable {w V : World} {b b2 zx zy Bm Bn : Nat} {p q m n : PM}
theorem Pre3.res (h : Pre3 w V b b2 p q m n Bm Bn) (h3 : V.heap[zx]? = some (podObj m 30)) (h4 : V.heap[zy]? = some (podObj n 30)) : Res w V b b2 zx zy p q m n :=
  ⟨h.om.at h.fr, h.on.at h.fr, h.fr, h.h1, h.h2, h3, h4⟩
theorem Pre3.alloc (h : Pre3 w V b b2 p q m n Bm Bn) (o : Obj) : Pre3 w (V.alloc o) b b2 p q m n Bm Bn :=
  ⟨h.om.fresh ((Fresh.refl V).alloc o), h.on.fresh ((Fresh.refl V).alloc o), at_alloc h.h1, at_alloc h.h2, h.fr.alloc o⟩
theorem Pre3.set (h : Pre3 w V b b2 p q m n Bm Bn) {z i : Nat} {ar : Array Value} (hz : V.heap[z]? = some (.cells ar 30 (0, 0))) (hw : w.heap.size ≤ z) (u : Value) : Pre3 w (V.setCell ⟨z, i, none⟩ u) b b2 p q m n Bm Bn :=
  ⟨h.om.setType hz (by decide) (by decide) (by decide) i u, h.on.setType hz (by decide) (by decide) (by decide) i u, other_block hz h.h1 (podObj_ne (by decide) _) u, other_block hz h.h2 (podObj_ne (by decide) _) u, h.fr.setCell (p := ⟨z, i, none⟩) hw u⟩
/-- The six stores of a pod into a box. -/
def set6 (V : World) (z : Nat) (p : PM) : World := (((((V.setCell ⟨z, 0, none⟩ (.string p.name)).setCell ⟨z, 1, none⟩ (.string p.ns)).setCell ⟨z, 2, none⟩ (.int .i64 p.restart)).setCell ⟨z, 3, none⟩ (.int .i64 p.grace)).setCell ⟨z, 4, none⟩ (.bool p.host)).setCell ⟨z, 5, none⟩ (.slice p.a p.cs.length p.cap)
theorem set6_box {z : Nat} {x : PM} (h : V.heap[z]? = some zero6) : (set6 V z x).heap[z]? = some (podObj x 30) :=
  at_set (at_set (at_set (at_set (at_set (at_set h 0 _) 1 _) 2 _) 3 _) 4 _) 5 _
theorem set6_off {z g : Nat} {x : PM} {o : Obj} (h : V.heap[g]? = some o) (hne : g ≠ z) : (set6 V z x).heap[g]? = some o :=
  at_off' (at_off' (at_off' (at_off' (at_off' (at_off' h hne _) hne _) hne _) hne _) hne _) hne _
theorem set6_size {z : Nat} {x : PM} : (set6 V z x).heap.size = V.heap.size := by simp [set6]
theorem Pre3.set6 (h : Pre3 w V b b2 p q m n Bm Bn) {z : Nat} {x : PM} (hz : V.heap[z]? = some zero6) (hw : w.heap.size ≤ z) : Pre3 w (set6 V z x) b b2 p q m n Bm Bn :=
  (((((h.set hz hw _).set (same_block hz _) hw _).set (same_block (same_block hz _) _) hw _).set (same_block (same_block (same_block hz _) _) _) hw _).set (same_block (same_block (same_block (same_block hz _) _) _) _) hw _).set (same_block (same_block (same_block (same_block (same_block hz _) _) _) _) _) hw _
theorem at_new2 (w : World) (o p : Obj) : ((w.alloc o).alloc p).heap[w.heap.size + 1]? = some p := by
  have := at_new (w.alloc o) p
  rwa [World.size_alloc] at this
theorem fin1 (h : Pre3 w V b b2 p q m n Bm Bn) : Res w ((V.alloc (podObj m 30)).alloc (podObj n 30)) b b2 V.heap.size (V.heap.size + 1) p q m n :=
  ((h.alloc _).alloc _).res (at_alloc (at_new _ _)) (at_new2 _ _ _)
theorem fin2 (h : Pre3 w V b b2 p q m n Bm Bn) : Res w ((V.alloc (podObj n 30)).alloc (podObj m 30)) b b2 (V.heap.size + 1) V.heap.size p q m n :=
  ((h.alloc _).alloc _).res (at_new2 _ _ _) (at_alloc (at_new _ _))
theorem fin3 (h : Pre3 w V b b2 p q m n Bm Bn) (hz : V.heap[zx]? = some zero6) (hw : w.heap.size ≤ zx) : Res w ((set6 V zx m).alloc (podObj n 30)) b b2 zx V.heap.size p q m n :=
  ((h.set6 hz hw).alloc _).res (at_alloc (set6_box hz)) (by have := at_new (set6 V zx m) (podObj n 30); rwa [set6_size] at this)
theorem fin4 (h : Pre3 w V b b2 p q m n Bm Bn) (hz : V.heap[zy]? = some zero6) (hw : w.heap.size ≤ zy) : Res w ((set6 V zy n).alloc (podObj m 30)) b b2 V.heap.size zy p q m n :=
  ((h.set6 hz hw).alloc _).res (by have := at_new (set6 V zy n) (podObj m 30); rwa [set6_size] at this) (at_alloc (set6_box hz))
theorem fin5 (h : Pre3 w V b b2 p q m n Bm Bn) (hx : V.heap[zx]? = some zero6) (hy : V.heap[zy]? = some zero6) (hne : zx ≠ zy) (hw : w.heap.size ≤ zx) (hw2 : w.heap.size ≤ zy) : Res w (set6 (set6 V zx m) zy n) b b2 zx zy p q m n :=
  ((h.set6 hx hw).set6 (set6_off hy (Ne.symm hne)) hw2).res (set6_off (set6_box hx) hne) (set6_box (set6_off hy (Ne.symm hne)))
end
end Go.Proofs.YtfhhmajkacjbgaaDoor
namespace Go.Proofs.YtfhhmajkacjbgaaDoor
open Go.ChangeShapes Go.WideShapes Go.ChangeAt Go.RowKit

def oC_0 : Oper := { dst := some 16, op := Go.Op.load 25 (Go.Operand.tmp 2), type := 25, pos := "law.go:65", after := #[], guard := none }
def oC_1 : Oper := { dst := some 17, op := Go.Op.call { callee := Go.Callee.value (Go.Operand.func 8), args := #[Go.Operand.tmp 16], argTypes := #[25] }, type := 30, pos := "law.go:65", after := #[{ on := 0, ground := Go.Ground.data }], guard := none }
def oC_2 : Oper := { dst := some 18, op := Go.Op.load 25 (Go.Operand.tmp 3), type := 25, pos := "law.go:65", after := #[], guard := none }
def oC_3 : Oper := { dst := some 19, op := Go.Op.call { callee := Go.Callee.value (Go.Operand.func 8), args := #[Go.Operand.tmp 18], argTypes := #[25] }, type := 30, pos := "law.go:65", after := #[{ on := 2, ground := Go.Ground.data }, { on := 1, ground := Go.Ground.chain }], guard := none }
def oC_4 : Oper := { dst := some 5, op := Go.Op.alloc 30, type := 0, pos := "law.go:65", after := #[], guard := none }
def oC_5 : Oper := { dst := some 6, op := Go.Op.alloc 30, type := 0, pos := "law.go:65", after := #[], guard := none }
def oC_6 : Oper := { dst := none, op := Go.Op.store 30 (Go.Operand.tmp 5) (Go.Operand.tmp 17), type := 0, pos := "law.go:65", after := #[{ on := 4, ground := Go.Ground.data }, { on := 1, ground := Go.Ground.data }, { on := 3, ground := Go.Ground.chain }, { on := 0, ground := Go.Ground.phase }, { on := 1, ground := Go.Ground.phase }, { on := 2, ground := Go.Ground.textOnly Go.Departure.lateStores }, { on := 3, ground := Go.Ground.textOnly Go.Departure.lateStoresUnsure }, { on := 4, ground := Go.Ground.phase }, { on := 5, ground := Go.Ground.phase }], guard := none }
def oC_7 : Oper := { dst := none, op := Go.Op.store 30 (Go.Operand.tmp 6) (Go.Operand.tmp 19), type := 0, pos := "law.go:65", after := #[{ on := 5, ground := Go.Ground.data }, { on := 3, ground := Go.Ground.data }, { on := 6, ground := Go.Ground.chain }, { on := 0, ground := Go.Ground.phase }, { on := 1, ground := Go.Ground.phase }, { on := 2, ground := Go.Ground.phase }, { on := 3, ground := Go.Ground.phase }, { on := 4, ground := Go.Ground.phase }, { on := 5, ground := Go.Ground.phase }, { on := 6, ground := Go.Ground.phase }], guard := none }
def opsC : Array Oper := #[oC_0, oC_1, oC_2, oC_3, oC_4, oC_5, oC_6, oC_7]
theorem r_done : ∀ d0 d1 d2 d3 d4 d5 d6 d7 : Bool, (Region.ready .any opsC #[d0, d1, d2, d3, d4, d5, d6, d7]).isEmpty = true → (d0 && d1 && d2 && d3 && d4 && d5 && d6 && d7) = true := by decide +kernel
theorem r_0 : ∀ d0 d1 d2 d3 d4 d5 d6 d7 : Bool, (Region.ready .any opsC #[d0, d1, d2, d3, d4, d5, d6, d7]).contains 0 = true → (!d0) = true := by decide +kernel
theorem r_1 : ∀ d0 d1 d2 d3 d4 d5 d6 d7 : Bool, (Region.ready .any opsC #[d0, d1, d2, d3, d4, d5, d6, d7]).contains 1 = true → (!d1 && d0) = true := by decide +kernel
theorem r_2 : ∀ d0 d1 d2 d3 d4 d5 d6 d7 : Bool, (Region.ready .any opsC #[d0, d1, d2, d3, d4, d5, d6, d7]).contains 2 = true → (!d2) = true := by decide +kernel
theorem r_3 : ∀ d0 d1 d2 d3 d4 d5 d6 d7 : Bool, (Region.ready .any opsC #[d0, d1, d2, d3, d4, d5, d6, d7]).contains 3 = true → (!d3 && d2 && d1) = true := by decide +kernel
theorem r_4 : ∀ d0 d1 d2 d3 d4 d5 d6 d7 : Bool, (Region.ready .any opsC #[d0, d1, d2, d3, d4, d5, d6, d7]).contains 4 = true → (!d4) = true := by decide +kernel
theorem r_5 : ∀ d0 d1 d2 d3 d4 d5 d6 d7 : Bool, (Region.ready .any opsC #[d0, d1, d2, d3, d4, d5, d6, d7]).contains 5 = true → (!d5) = true := by decide +kernel
theorem r_6 : ∀ d0 d1 d2 d3 d4 d5 d6 d7 : Bool, (Region.ready .any opsC #[d0, d1, d2, d3, d4, d5, d6, d7]).contains 6 = true → (!d6 && d4 && d1 && d3) = true := by decide +kernel
theorem r_7 : ∀ d0 d1 d2 d3 d4 d5 d6 d7 : Bool, (Region.ready .any opsC #[d0, d1, d2, d3, d4, d5, d6, d7]).contains 7 = true → (!d7 && d5 && d3 && d6) = true := by decide +kernel
theorem r_lt : ∀ d0 d1 d2 d3 d4 d5 d6 d7 : Bool, (Region.ready .any opsC #[d0, d1, d2, d3, d4, d5, d6, d7]).all (fun k => decide (k < 8)) = true := by decide +kernel
theorem all_done : ∀ d0 d1 d2 d3 d4 d5 d6 d7 : Bool, (!d0).toNat + (!d1).toNat + (!d2).toNat + (!d3).toNat + (!d4).toNat + (!d5).toNat + (!d6).toNat + (!d7).toNat ≤ 0 → (d0 && d1 && d2 && d3 && d4 && d5 && d6 && d7) = true := by decide +kernel
section
variable {P : Program} {Q : Exit → Act → World → Prop}
theorem wpOp_of {ops : Array Oper} {i : Nat} {o : Oper} {K : Act → World → Prop} {a : Act} {w : World} (hi : ops[i]? = some o) (hg : o.guard = none) (h : o.wp P a w K Q) : wpOp P ops Q i K a w := by
  unfold wpOp
  simp only [hi]
  rw [if_pos (by simp [Region.wanted, hg])]
  exact .inl h
theorem wpOp_run {ops : Array Oper} {i : Nat} {o : Oper} {K : Act → World → Prop} {b : Act} {w w' : World} {v : Value} (hi : ops[i]? = some o) (hg : o.guard = none) (hr : (execOp b.eval o).run P w = .ok (.value v) w') (h : K (b.put o.dst v) w') : wpOp P ops Q i K b w := by
  refine wpOp_of hi hg ?_
  unfold Oper.wp
  rw [hr]
  exact h
theorem wpOp_skip {ops : Array Oper} {i : Nat} {o : Oper} {K : Act → World → Prop} {b : Act} {w w' : World} (hi : ops[i]? = some o) (hg : o.guard = none) (hd : o.dst = none) (hr : (execOp b.eval o).run P w = .ok .skip w') (h : K b w') : wpOp P ops Q i K b w := by
  refine wpOp_of hi hg ?_
  unfold Oper.wp
  rw [hr, Oper.upon_skip, hd]
  exact h
theorem wpOp_call2 {ops : Array Oper} {i : Nat} {o : Oper} {K : Act → World → Prop} {b : Act} {w : World} {f : FuncId} {args : Array Value} (hi : ops[i]? = some o) (hg : o.guard = none) (hr : (execOp b.eval o).run P w = .ok (.enter f args) w)
    {R : Ending → World → Prop} (hc : Calls P f args w R) (h : ∀ e w', R e w' → ∃ v, e = .returned v ∧ K (b.put o.dst v) w') : wpOp P ops Q i K b w := by
  refine wpOp_of hi hg ?_
  unfold Oper.wp
  rw [hr, Oper.upon_enter]
  refine hc.mono ?_
  intro e w' he
  obtain ⟨v, rfl, hk⟩ := h e w' he
  exact hk
theorem ev_same {a : Act} {d : Nat} {v : Value} (h : d < a.tmps.size) : (a.put (some d) v).eval (.tmp d) = v := by
  simp [Act.put, Act.eval, h]
theorem ev_ne {a : Act} {d t : Nat} {v : Value} (h : d ≠ t) : (a.put (some d) v).eval (.tmp t) = a.eval (.tmp t) := by
  simp [Act.put, Act.eval, Array.getD_eq_getD_getElem?, h]
theorem put_size {a : Act} {d : Option Nat} {v : Value} : (a.put d v).tmps.size = a.tmps.size := by
  cases d <;> simp [Act.put]
theorem put_defers {a : Act} {d : Option Nat} {v : Value} : (a.put d v).defers = a.defers := by
  cases d <;> simp [Act.put]
theorem ev_get {a : Act} {t : Nat} {v : Value} (h : a.eval (.tmp t) = v) : a.tmps[t]?.getD undef = v := by
  rw [← h]; simp [Act.eval]
/-- Eight operations in whatever order, by what holds between them. -/
theorem any8 {ops : Array Oper} (I : Bool → Bool → Bool → Bool → Bool → Bool → Bool → Bool → Act → World → Prop)
    (hend : ∀ d0 d1 d2 d3 d4 d5 d6 d7 a w, I d0 d1 d2 d3 d4 d5 d6 d7 a w → Region.ready .any ops #[d0, d1, d2, d3, d4, d5, d6, d7] = [] → Q .normal a w)
    (hlt : ∀ d0 d1 d2 d3 d4 d5 d6 d7 k, k ∈ Region.ready .any ops #[d0, d1, d2, d3, d4, d5, d6, d7] → k < 8)
    (hall : Region.ready .any ops #[true, true, true, true, true, true, true, true] = [])
    (h0 : ∀ d0 d1 d2 d3 d4 d5 d6 d7 a w, I d0 d1 d2 d3 d4 d5 d6 d7 a w → 0 ∈ Region.ready .any ops #[d0, d1, d2, d3, d4, d5, d6, d7] → wpOp P ops Q 0 (I true d1 d2 d3 d4 d5 d6 d7) a w)
    (h1 : ∀ d0 d1 d2 d3 d4 d5 d6 d7 a w, I d0 d1 d2 d3 d4 d5 d6 d7 a w → 1 ∈ Region.ready .any ops #[d0, d1, d2, d3, d4, d5, d6, d7] → wpOp P ops Q 1 (I d0 true d2 d3 d4 d5 d6 d7) a w)
    (h2 : ∀ d0 d1 d2 d3 d4 d5 d6 d7 a w, I d0 d1 d2 d3 d4 d5 d6 d7 a w → 2 ∈ Region.ready .any ops #[d0, d1, d2, d3, d4, d5, d6, d7] → wpOp P ops Q 2 (I d0 d1 true d3 d4 d5 d6 d7) a w)
    (h3 : ∀ d0 d1 d2 d3 d4 d5 d6 d7 a w, I d0 d1 d2 d3 d4 d5 d6 d7 a w → 3 ∈ Region.ready .any ops #[d0, d1, d2, d3, d4, d5, d6, d7] → wpOp P ops Q 3 (I d0 d1 d2 true d4 d5 d6 d7) a w)
    (h4 : ∀ d0 d1 d2 d3 d4 d5 d6 d7 a w, I d0 d1 d2 d3 d4 d5 d6 d7 a w → 4 ∈ Region.ready .any ops #[d0, d1, d2, d3, d4, d5, d6, d7] → wpOp P ops Q 4 (I d0 d1 d2 d3 true d5 d6 d7) a w)
    (h5 : ∀ d0 d1 d2 d3 d4 d5 d6 d7 a w, I d0 d1 d2 d3 d4 d5 d6 d7 a w → 5 ∈ Region.ready .any ops #[d0, d1, d2, d3, d4, d5, d6, d7] → wpOp P ops Q 5 (I d0 d1 d2 d3 d4 true d6 d7) a w)
    (h6 : ∀ d0 d1 d2 d3 d4 d5 d6 d7 a w, I d0 d1 d2 d3 d4 d5 d6 d7 a w → 6 ∈ Region.ready .any ops #[d0, d1, d2, d3, d4, d5, d6, d7] → wpOp P ops Q 6 (I d0 d1 d2 d3 d4 d5 true d7) a w)
    (h7 : ∀ d0 d1 d2 d3 d4 d5 d6 d7 a w, I d0 d1 d2 d3 d4 d5 d6 d7 a w → 7 ∈ Region.ready .any ops #[d0, d1, d2, d3, d4, d5, d6, d7] → wpOp P ops Q 7 (I d0 d1 d2 d3 d4 d5 d6 true) a w)
    : ∀ (f : Nat) (d0 d1 d2 d3 d4 d5 d6 d7 : Bool) (a : Act) (w : World), (!d0).toNat + (!d1).toNat + (!d2).toNat + (!d3).toNat + (!d4).toNat + (!d5).toNat + (!d6).toNat + (!d7).toNat ≤ f → I d0 d1 d2 d3 d4 d5 d6 d7 a w → wpAny P .any ops Q f #[d0, d1, d2, d3, d4, d5, d6, d7] a w := by
  intro f
  induction f with
  | zero =>
    intro d0 d1 d2 d3 d4 d5 d6 d7 a w hf h
    have hd := all_done _ _ _ _ _ _ _ _ hf
    simp only [Bool.and_eq_true] at hd
    obtain ⟨⟨⟨⟨⟨⟨⟨rfl, rfl⟩, rfl⟩, rfl⟩, rfl⟩, rfl⟩, rfl⟩, rfl⟩ := hd
    exact ⟨hall, hend _ _ _ _ _ _ _ _ a w h hall⟩
  | succ f ih =>
    intro d0 d1 d2 d3 d4 d5 d6 d7 a w hf h
    refine ⟨fun e => hend _ _ _ _ _ _ _ _ a w h e, fun k hk => ?_⟩
    have hk8 := hlt _ _ _ _ _ _ _ _ k hk
    have hkd := (mem_ready.1 hk).1
    match k, hk8 with
    | 0, _ =>
      refine wpOp_mono (fun b u h2 => ?_) (h0 _ _ _ _ _ _ _ _ a w h hk)
      refine ih _ _ _ _ _ _ _ _ b u ?_ h2
      have hd : d0 = false := by simpa using hkd
      subst hd
      simp only [Bool.not_false, Bool.not_true, Bool.toNat_true, Bool.toNat_false] at hf ⊢
      omega
    | 1, _ =>
      refine wpOp_mono (fun b u h2 => ?_) (h1 _ _ _ _ _ _ _ _ a w h hk)
      refine ih _ _ _ _ _ _ _ _ b u ?_ h2
      have hd : d1 = false := by simpa using hkd
      subst hd
      simp only [Bool.not_false, Bool.not_true, Bool.toNat_true, Bool.toNat_false] at hf ⊢
      omega
    | 2, _ =>
      refine wpOp_mono (fun b u h2 => ?_) (h2 _ _ _ _ _ _ _ _ a w h hk)
      refine ih _ _ _ _ _ _ _ _ b u ?_ h2
      have hd : d2 = false := by simpa using hkd
      subst hd
      simp only [Bool.not_false, Bool.not_true, Bool.toNat_true, Bool.toNat_false] at hf ⊢
      omega
    | 3, _ =>
      refine wpOp_mono (fun b u h2 => ?_) (h3 _ _ _ _ _ _ _ _ a w h hk)
      refine ih _ _ _ _ _ _ _ _ b u ?_ h2
      have hd : d3 = false := by simpa using hkd
      subst hd
      simp only [Bool.not_false, Bool.not_true, Bool.toNat_true, Bool.toNat_false] at hf ⊢
      omega
    | 4, _ =>
      refine wpOp_mono (fun b u h2 => ?_) (h4 _ _ _ _ _ _ _ _ a w h hk)
      refine ih _ _ _ _ _ _ _ _ b u ?_ h2
      have hd : d4 = false := by simpa using hkd
      subst hd
      simp only [Bool.not_false, Bool.not_true, Bool.toNat_true, Bool.toNat_false] at hf ⊢
      omega
    | 5, _ =>
      refine wpOp_mono (fun b u h2 => ?_) (h5 _ _ _ _ _ _ _ _ a w h hk)
      refine ih _ _ _ _ _ _ _ _ b u ?_ h2
      have hd : d5 = false := by simpa using hkd
      subst hd
      simp only [Bool.not_false, Bool.not_true, Bool.toNat_true, Bool.toNat_false] at hf ⊢
      omega
    | 6, _ =>
      refine wpOp_mono (fun b u h2 => ?_) (h6 _ _ _ _ _ _ _ _ a w h hk)
      refine ih _ _ _ _ _ _ _ _ b u ?_ h2
      have hd : d6 = false := by simpa using hkd
      subst hd
      simp only [Bool.not_false, Bool.not_true, Bool.toNat_true, Bool.toNat_false] at hf ⊢
      omega
    | 7, _ =>
      refine wpOp_mono (fun b u h2 => ?_) (h7 _ _ _ _ _ _ _ _ a w h hk)
      refine ih _ _ _ _ _ _ _ _ b u ?_ h2
      have hd : d7 = false := by simpa using hkd
      subst hd
      simp only [Bool.not_false, Bool.not_true, Bool.toNat_true, Bool.toNat_false] at hf ⊢
      omega
end
/-- What holds between the operations. -/
structure IR (w0 : World) (p q : PM) (b c : Nat) (d0 d1 d2 d3 d4 d5 d6 d7 : Bool) (a : Act) (W : World) (m n : PM) (zx zy Bm Bn : Nat) : Prop where
  fs : a.tmps.size = 50
  fd : a.defers = []
  e2 : a.eval (.tmp 2) = .pointer (some ⟨b, 0, none⟩)
  e3 : a.eval (.tmp 3) = .pointer (some ⟨c, 0, none⟩)
  g1 : W.heap[b]? = some (podObj p 25)
  g2 : W.heap[c]? = some (podObj q 25)
  fr : Fresh w0 W
  r0 : d0 = true → a.eval (.tmp 16) = .agg #[.string p.name, .string p.ns, .int .i64 p.restart, .int .i64 p.grace, .bool p.host, .slice p.a p.cs.length p.cap]
  r1 : d1 = true → a.eval (.tmp 17) = .agg #[.string m.name, .string m.ns, .int .i64 m.restart, .int .i64 m.grace, .bool m.host, .slice m.a m.cs.length m.cap] ∧ m.pd = p.pd ∧ OAt w0 W Bm m
  r2 : d2 = true → a.eval (.tmp 18) = .agg #[.string q.name, .string q.ns, .int .i64 q.restart, .int .i64 q.grace, .bool q.host, .slice q.a q.cs.length q.cap]
  r3 : d3 = true → a.eval (.tmp 19) = .agg #[.string n.name, .string n.ns, .int .i64 n.restart, .int .i64 n.grace, .bool n.host, .slice n.a n.cs.length n.cap] ∧ n.pd = q.pd ∧ OAt w0 W Bn n
  r4 : d4 = true → a.eval (.tmp 5) = .pointer (some ⟨zx, 0, none⟩) ∧ w0.heap.size ≤ zx ∧ (d6 = true → W.heap[zx]? = some (podObj m 30)) ∧ (d6 = false → W.heap[zx]? = some zero6)
  r5 : d5 = true → a.eval (.tmp 6) = .pointer (some ⟨zy, 0, none⟩) ∧ w0.heap.size ≤ zy ∧ (d7 = true → W.heap[zy]? = some (podObj n 30)) ∧ (d7 = false → W.heap[zy]? = some zero6)
  ne : d4 = true → d5 = true → zx ≠ zy
  l6 : d6 = true → d1 = true ∧ d4 = true
  l7 : d7 = true → d3 = true ∧ d5 = true ∧ d6 = true
theorem sixes {w : World} {b ty : Nat} {p : PM} (h : w.heap[b]? = some (podObj p ty)) :
    w.cell? ⟨b, 0, none⟩ = some (.string p.name) ∧ w.cell? ⟨b, 1, none⟩ = some (.string p.ns) ∧ w.cell? ⟨b, 2, none⟩ = some (.int .i64 p.restart) ∧ w.cell? ⟨b, 3, none⟩ = some (.int .i64 p.grace) ∧ w.cell? ⟨b, 4, none⟩ = some (.bool p.host) ∧ w.cell? ⟨b, 5, none⟩ = some (.slice p.a p.cs.length p.cap) := (box6p h).1
set_option maxRecDepth 100000 in
theorem run_load0 {a : Act} {W : World} {b : Nat} {p : PM} (e : a.eval (.tmp 2) = .pointer (some ⟨b, 0, none⟩)) (g : W.heap[b]? = some (podObj p 25)) : (execOp a.eval oC_0).run Tryd.prog W = .ok (.value (.agg #[.string p.name, .string p.ns, .int .i64 p.restart, .int .i64 p.grace, .bool p.host, .slice p.a p.cs.length p.cap])) W := by
  obtain ⟨c0, c1, c2, c3, c4, c5⟩ := sixes g
  have e := ev_get e
  simp [execOp, oC_0, e, go_sem, c0, c1, c2, c3, c4, c5]
set_option maxRecDepth 100000 in
theorem run_load2 {a : Act} {W : World} {b : Nat} {p : PM} (e : a.eval (.tmp 3) = .pointer (some ⟨b, 0, none⟩)) (g : W.heap[b]? = some (podObj p 25)) : (execOp a.eval oC_2).run Tryd.prog W = .ok (.value (.agg #[.string p.name, .string p.ns, .int .i64 p.restart, .int .i64 p.grace, .bool p.host, .slice p.a p.cs.length p.cap])) W := by
  obtain ⟨c0, c1, c2, c3, c4, c5⟩ := sixes g
  have e := ev_get e
  simp [execOp, oC_2, e, go_sem, c0, c1, c2, c3, c4, c5]
theorem run_call1 {a : Act} {W : World} {v : Value} (e : a.eval (.tmp 16) = v) : (execOp a.eval oC_1).run Tryd.prog W = .ok (.enter 8 #[v]) W := by
  have e := ev_get e
  simp [execOp, oC_1, e, go_sem]
theorem run_call3 {a : Act} {W : World} {v : Value} (e : a.eval (.tmp 18) = v) : (execOp a.eval oC_3).run Tryd.prog W = .ok (.enter 8 #[v]) W := by
  have e := ev_get e
  simp [execOp, oC_3, e, go_sem]
theorem run_new4 {a : Act} {W : World} : (execOp a.eval oC_4).run Tryd.prog W = .ok (.value (.pointer (some ⟨W.heap.size, 0, none⟩))) (W.alloc zero6) := by
  simp [execOp, oC_4, go_sem]
theorem run_new5 {a : Act} {W : World} : (execOp a.eval oC_5).run Tryd.prog W = .ok (.value (.pointer (some ⟨W.heap.size, 0, none⟩))) (W.alloc zero6) := by
  simp [execOp, oC_5, go_sem]
set_option maxRecDepth 100000 in
theorem run_store6 {a : Act} {W : World} {z : Nat} {p : PM} (e : a.eval (.tmp 5) = .pointer (some ⟨z, 0, none⟩)) (e' : a.eval (.tmp 17) = .agg #[.string p.name, .string p.ns, .int .i64 p.restart, .int .i64 p.grace, .bool p.host, .slice p.a p.cs.length p.cap]) (g : W.heap[z]? = some zero6) : (execOp a.eval oC_6).run Tryd.prog W = .ok .skip (set6 W z p) := by
  obtain ⟨⟨c0, c1, c2, c3, c4, c5⟩, f⟩ := box6p g
  have f0 := f 0
  have f1 := f 1
  have f2 := f 2
  have f3 := f 3
  have f4 := f 4
  have f5 := f 5
  clear f
  have e := ev_get e
  have e' := ev_get e'
  simp [execOp, oC_6, e, e', go_sem, c0, c1, c2, c3, c4, c5, f0, f1, f2, f3, f4, f5, set6]
set_option maxRecDepth 100000 in
theorem run_store7 {a : Act} {W : World} {z : Nat} {p : PM} (e : a.eval (.tmp 6) = .pointer (some ⟨z, 0, none⟩)) (e' : a.eval (.tmp 19) = .agg #[.string p.name, .string p.ns, .int .i64 p.restart, .int .i64 p.grace, .bool p.host, .slice p.a p.cs.length p.cap]) (g : W.heap[z]? = some zero6) : (execOp a.eval oC_7).run Tryd.prog W = .ok .skip (set6 W z p) := by
  obtain ⟨⟨c0, c1, c2, c3, c4, c5⟩, f⟩ := box6p g
  have f0 := f 0
  have f1 := f 1
  have f2 := f 2
  have f3 := f 3
  have f4 := f 4
  have f5 := f 5
  clear f
  have e := ev_get e
  have e' := ev_get e'
  simp [execOp, oC_7, e, e', go_sem, c0, c1, c2, c3, c4, c5, f0, f1, f2, f3, f4, f5, set6]
end Go.Proofs.YtfhhmajkacjbgaaDoor
namespace Go.Proofs.YtfhhmajkacjbgaaDoor
open Go.ChangeShapes Go.WideShapes Go.ChangeAt Go.RowKit

def IC (w0 : World) (p q : PM) (b c : Nat) (d0 d1 d2 d3 d4 d5 d6 d7 : Bool) (a : Act) (W : World) : Prop := ∃ m n zx zy Bm Bn, IR w0 p q b c d0 d1 d2 d3 d4 d5 d6 d7 a W m n zx zy Bm Bn
theorem no_case {x : Bool} {C : Prop} (h : (!x) = true) (e : x = true) : C := by subst e; exact absurd h (by decide)
section
variable {w0 : World} {p q : PM} {b c : Nat} {Q : Exit → Act → World → Prop} {d0 d1 d2 d3 d4 d5 d6 d7 : Bool} {a : Act} {W : World}
theorem IR.lt4 {m n : PM} {zx zy Bm Bn : Nat} (h : IR w0 p q b c d0 d1 d2 d3 d4 d5 d6 d7 a W m n zx zy Bm Bn) (t : d4 = true) : zx < W.heap.size := by
  rcases Bool.eq_false_or_eq_true d6 with u | u
  · exact lt_of_at ((h.r4 t).2.2.1 u)
  · exact lt_of_at ((h.r4 t).2.2.2 u)
theorem IR.lt5 {m n : PM} {zx zy Bm Bn : Nat} (h : IR w0 p q b c d0 d1 d2 d3 d4 d5 d6 d7 a W m n zx zy Bm Bn) (t : d5 = true) : zy < W.heap.size := by
  rcases Bool.eq_false_or_eq_true d7 with u | u
  · exact lt_of_at ((h.r5 t).2.2.1 u)
  · exact lt_of_at ((h.r5 t).2.2.2 u)
set_option maxRecDepth 100000 in
theorem step0 (h : IC w0 p q b c d0 d1 d2 d3 d4 d5 d6 d7 a W) (hr : 0 ∈ Region.ready .any opsC #[d0, d1, d2, d3, d4, d5, d6, d7]) : wpOp Tryd.prog opsC Q 0 (IC w0 p q b c true d1 d2 d3 d4 d5 d6 d7) a W := by
  have hc := r_0 d0 d1 d2 d3 d4 d5 d6 d7 (List.contains_iff_mem.2 hr)
  obtain ⟨m, n, zx, zy, Bm, Bn, h⟩ := h
  clear hc
  refine wpOp_run (o := oC_0) rfl rfl (run_load0 h.e2 h.g1) ⟨m, n, zx, zy, Bm, Bn, ?_⟩
  show IR w0 p q b c true d1 d2 d3 d4 d5 d6 d7 (a.put (some 16) _) W m n zx zy Bm Bn
  exact { fs := by rw [put_size]; exact h.fs, fd := by rw [put_defers]; exact h.fd, e2 := (ev_ne (d := 16) (t := 2) (by decide)).trans h.e2, e3 := (ev_ne (d := 16) (t := 3) (by decide)).trans h.e3, g1 := h.g1, g2 := h.g2, fr := h.fr, r0 := fun _ => ev_same (by rw [h.fs]; decide), r1 := fun t => ⟨(ev_ne (d := 16) (t := 17) (by decide)).trans (h.r1 t).1, (h.r1 t).2.1, (h.r1 t).2.2⟩, r2 := fun t => (ev_ne (d := 16) (t := 18) (by decide)).trans (h.r2 t), r3 := fun t => ⟨(ev_ne (d := 16) (t := 19) (by decide)).trans (h.r3 t).1, (h.r3 t).2.1, (h.r3 t).2.2⟩, r4 := fun t => ⟨(ev_ne (d := 16) (t := 5) (by decide)).trans (h.r4 t).1, (h.r4 t).2.1, fun u => ((h.r4 t).2.2.1 u), fun u => ((h.r4 t).2.2.2 u)⟩, r5 := fun t => ⟨(ev_ne (d := 16) (t := 6) (by decide)).trans (h.r5 t).1, (h.r5 t).2.1, fun u => ((h.r5 t).2.2.1 u), fun u => ((h.r5 t).2.2.2 u)⟩, ne := h.ne, l6 := h.l6, l7 := h.l7 }
set_option maxRecDepth 100000 in
theorem step1 (hp : p.At w0) (lp : p.Low) (h : IC w0 p q b c d0 d1 d2 d3 d4 d5 d6 d7 a W) (hr : 1 ∈ Region.ready .any opsC #[d0, d1, d2, d3, d4, d5, d6, d7]) : wpOp Tryd.prog opsC Q 1 (IC w0 p q b c d0 true d2 d3 d4 d5 d6 d7) a W := by
  have hc := r_1 d0 d1 d2 d3 d4 d5 d6 d7 (List.contains_iff_mem.2 hr)
  obtain ⟨m, n, zx, zy, Bm, Bn, h⟩ := h
  simp only [Bool.and_eq_true] at hc
  obtain ⟨c1, c0⟩ := hc
  have n6 : d6 = true → False := fun e => no_case c1 (h.l6 e).1
  refine wpOp_call2 (o := oC_1) rfl rfl (run_call1 (h.r0 c0)) (of_own p w0 W hp h.fr lp) ?_
  rintro e V ⟨x, rfl, hx, ho, hf⟩
  refine ⟨_, rfl, x, n, zx, zy, W.heap.size, Bn, ?_⟩
  show IR w0 p q b c d0 true d2 d3 d4 d5 d6 d7 (a.put (some 17) _) V x n zx zy W.heap.size Bn
  exact { fs := by rw [put_size]; exact h.fs, fd := by rw [put_defers]; exact h.fd, e2 := (ev_ne (d := 17) (t := 2) (by decide)).trans h.e2, e3 := (ev_ne (d := 17) (t := 3) (by decide)).trans h.e3, g1 := (Fresh.at hf h.g1), g2 := (Fresh.at hf h.g2), fr := h.fr.trans hf, r0 := fun t => (ev_ne (d := 17) (t := 16) (by decide)).trans (h.r0 t), r1 := fun _ => ⟨ev_same (by rw [h.fs]; decide), hx, ho⟩, r2 := fun t => (ev_ne (d := 17) (t := 18) (by decide)).trans (h.r2 t), r3 := fun t => ⟨(ev_ne (d := 17) (t := 19) (by decide)).trans (h.r3 t).1, (h.r3 t).2.1, (OAt.fresh (h.r3 t).2.2 hf)⟩, r4 := fun t => ⟨(ev_ne (d := 17) (t := 5) (by decide)).trans (h.r4 t).1, (h.r4 t).2.1, fun u => (n6 u).elim, fun u => Fresh.at hf ((h.r4 t).2.2.2 u)⟩, r5 := fun t => ⟨(ev_ne (d := 17) (t := 6) (by decide)).trans (h.r5 t).1, (h.r5 t).2.1, fun u => (Fresh.at hf ((h.r5 t).2.2.1 u)), fun u => (Fresh.at hf ((h.r5 t).2.2.2 u))⟩, ne := h.ne, l6 := fun e => ⟨rfl, (h.l6 e).2⟩, l7 := h.l7 }
set_option maxRecDepth 100000 in
theorem step2 (h : IC w0 p q b c d0 d1 d2 d3 d4 d5 d6 d7 a W) (hr : 2 ∈ Region.ready .any opsC #[d0, d1, d2, d3, d4, d5, d6, d7]) : wpOp Tryd.prog opsC Q 2 (IC w0 p q b c d0 d1 true d3 d4 d5 d6 d7) a W := by
  have hc := r_2 d0 d1 d2 d3 d4 d5 d6 d7 (List.contains_iff_mem.2 hr)
  obtain ⟨m, n, zx, zy, Bm, Bn, h⟩ := h
  clear hc
  refine wpOp_run (o := oC_2) rfl rfl (run_load2 h.e3 h.g2) ⟨m, n, zx, zy, Bm, Bn, ?_⟩
  show IR w0 p q b c d0 d1 true d3 d4 d5 d6 d7 (a.put (some 18) _) W m n zx zy Bm Bn
  exact { fs := by rw [put_size]; exact h.fs, fd := by rw [put_defers]; exact h.fd, e2 := (ev_ne (d := 18) (t := 2) (by decide)).trans h.e2, e3 := (ev_ne (d := 18) (t := 3) (by decide)).trans h.e3, g1 := h.g1, g2 := h.g2, fr := h.fr, r0 := fun t => (ev_ne (d := 18) (t := 16) (by decide)).trans (h.r0 t), r1 := fun t => ⟨(ev_ne (d := 18) (t := 17) (by decide)).trans (h.r1 t).1, (h.r1 t).2.1, (h.r1 t).2.2⟩, r2 := fun _ => ev_same (by rw [h.fs]; decide), r3 := fun t => ⟨(ev_ne (d := 18) (t := 19) (by decide)).trans (h.r3 t).1, (h.r3 t).2.1, (h.r3 t).2.2⟩, r4 := fun t => ⟨(ev_ne (d := 18) (t := 5) (by decide)).trans (h.r4 t).1, (h.r4 t).2.1, fun u => ((h.r4 t).2.2.1 u), fun u => ((h.r4 t).2.2.2 u)⟩, r5 := fun t => ⟨(ev_ne (d := 18) (t := 6) (by decide)).trans (h.r5 t).1, (h.r5 t).2.1, fun u => ((h.r5 t).2.2.1 u), fun u => ((h.r5 t).2.2.2 u)⟩, ne := h.ne, l6 := h.l6, l7 := h.l7 }
set_option maxRecDepth 100000 in
theorem step3 (hq : q.At w0) (lq : q.Low) (h : IC w0 p q b c d0 d1 d2 d3 d4 d5 d6 d7 a W) (hr : 3 ∈ Region.ready .any opsC #[d0, d1, d2, d3, d4, d5, d6, d7]) : wpOp Tryd.prog opsC Q 3 (IC w0 p q b c d0 d1 d2 true d4 d5 d6 d7) a W := by
  have hc := r_3 d0 d1 d2 d3 d4 d5 d6 d7 (List.contains_iff_mem.2 hr)
  obtain ⟨m, n, zx, zy, Bm, Bn, h⟩ := h
  simp only [Bool.and_eq_true] at hc
  obtain ⟨⟨c3, c2⟩, c1⟩ := hc
  have n7 : d7 = true → False := fun e => no_case c3 (h.l7 e).1
  refine wpOp_call2 (o := oC_3) rfl rfl (run_call3 (h.r2 c2)) (of_own q w0 W hq h.fr lq) ?_
  rintro e V ⟨x, rfl, hx, ho, hf⟩
  refine ⟨_, rfl, m, x, zx, zy, Bm, W.heap.size, ?_⟩
  show IR w0 p q b c d0 d1 d2 true d4 d5 d6 d7 (a.put (some 19) _) V m x zx zy Bm W.heap.size
  exact { fs := by rw [put_size]; exact h.fs, fd := by rw [put_defers]; exact h.fd, e2 := (ev_ne (d := 19) (t := 2) (by decide)).trans h.e2, e3 := (ev_ne (d := 19) (t := 3) (by decide)).trans h.e3, g1 := (Fresh.at hf h.g1), g2 := (Fresh.at hf h.g2), fr := h.fr.trans hf, r0 := fun t => (ev_ne (d := 19) (t := 16) (by decide)).trans (h.r0 t), r1 := fun t => ⟨(ev_ne (d := 19) (t := 17) (by decide)).trans (h.r1 t).1, (h.r1 t).2.1, (OAt.fresh (h.r1 t).2.2 hf)⟩, r2 := fun t => (ev_ne (d := 19) (t := 18) (by decide)).trans (h.r2 t), r3 := fun _ => ⟨ev_same (by rw [h.fs]; decide), hx, ho⟩, r4 := fun t => ⟨(ev_ne (d := 19) (t := 5) (by decide)).trans (h.r4 t).1, (h.r4 t).2.1, fun u => (Fresh.at hf ((h.r4 t).2.2.1 u)), fun u => (Fresh.at hf ((h.r4 t).2.2.2 u))⟩, r5 := fun t => ⟨(ev_ne (d := 19) (t := 6) (by decide)).trans (h.r5 t).1, (h.r5 t).2.1, fun u => (n7 u).elim, fun u => Fresh.at hf ((h.r5 t).2.2.2 u)⟩, ne := h.ne, l6 := h.l6, l7 := fun e => ⟨rfl, (h.l7 e).2⟩ }
set_option maxRecDepth 100000 in
theorem step4 (h : IC w0 p q b c d0 d1 d2 d3 d4 d5 d6 d7 a W) (hr : 4 ∈ Region.ready .any opsC #[d0, d1, d2, d3, d4, d5, d6, d7]) : wpOp Tryd.prog opsC Q 4 (IC w0 p q b c d0 d1 d2 d3 true d5 d6 d7) a W := by
  have hc := r_4 d0 d1 d2 d3 d4 d5 d6 d7 (List.contains_iff_mem.2 hr)
  obtain ⟨m, n, zx, zy, Bm, Bn, h⟩ := h
  have n6 : d6 = true → False := fun e => no_case hc (h.l6 e).2
  have hf : Fresh W (W.alloc zero6) := (Fresh.refl W).alloc zero6
  refine wpOp_run (o := oC_4) rfl rfl run_new4 ⟨m, n, W.heap.size, zy, Bm, Bn, ?_⟩
  show IR w0 p q b c d0 d1 d2 d3 true d5 d6 d7 (a.put (some 5) _) (W.alloc zero6) m n W.heap.size zy Bm Bn
  exact { fs := by rw [put_size]; exact h.fs, fd := by rw [put_defers]; exact h.fd, e2 := (ev_ne (d := 5) (t := 2) (by decide)).trans h.e2, e3 := (ev_ne (d := 5) (t := 3) (by decide)).trans h.e3, g1 := (Fresh.at hf h.g1), g2 := (Fresh.at hf h.g2), fr := h.fr.trans hf, r0 := fun t => (ev_ne (d := 5) (t := 16) (by decide)).trans (h.r0 t), r1 := fun t => ⟨(ev_ne (d := 5) (t := 17) (by decide)).trans (h.r1 t).1, (h.r1 t).2.1, (OAt.fresh (h.r1 t).2.2 hf)⟩, r2 := fun t => (ev_ne (d := 5) (t := 18) (by decide)).trans (h.r2 t), r3 := fun t => ⟨(ev_ne (d := 5) (t := 19) (by decide)).trans (h.r3 t).1, (h.r3 t).2.1, (OAt.fresh (h.r3 t).2.2 hf)⟩, r4 := fun _ => ⟨ev_same (by rw [h.fs]; decide), h.fr.size, fun u => (n6 u).elim, fun _ => at_new W zero6⟩, r5 := fun t => ⟨(ev_ne (d := 5) (t := 6) (by decide)).trans (h.r5 t).1, (h.r5 t).2.1, fun u => (Fresh.at hf ((h.r5 t).2.2.1 u)), fun u => (Fresh.at hf ((h.r5 t).2.2.2 u))⟩, ne := fun _ t => Nat.ne_of_gt (h.lt5 t), l6 := fun e => ⟨(h.l6 e).1, rfl⟩, l7 := h.l7 }
set_option maxRecDepth 100000 in
theorem step5 (h : IC w0 p q b c d0 d1 d2 d3 d4 d5 d6 d7 a W) (hr : 5 ∈ Region.ready .any opsC #[d0, d1, d2, d3, d4, d5, d6, d7]) : wpOp Tryd.prog opsC Q 5 (IC w0 p q b c d0 d1 d2 d3 d4 true d6 d7) a W := by
  have hc := r_5 d0 d1 d2 d3 d4 d5 d6 d7 (List.contains_iff_mem.2 hr)
  obtain ⟨m, n, zx, zy, Bm, Bn, h⟩ := h
  have n7 : d7 = true → False := fun e => no_case hc (h.l7 e).2.1
  have hf : Fresh W (W.alloc zero6) := (Fresh.refl W).alloc zero6
  refine wpOp_run (o := oC_5) rfl rfl run_new5 ⟨m, n, zx, W.heap.size, Bm, Bn, ?_⟩
  show IR w0 p q b c d0 d1 d2 d3 d4 true d6 d7 (a.put (some 6) _) (W.alloc zero6) m n zx W.heap.size Bm Bn
  exact { fs := by rw [put_size]; exact h.fs, fd := by rw [put_defers]; exact h.fd, e2 := (ev_ne (d := 6) (t := 2) (by decide)).trans h.e2, e3 := (ev_ne (d := 6) (t := 3) (by decide)).trans h.e3, g1 := (Fresh.at hf h.g1), g2 := (Fresh.at hf h.g2), fr := h.fr.trans hf, r0 := fun t => (ev_ne (d := 6) (t := 16) (by decide)).trans (h.r0 t), r1 := fun t => ⟨(ev_ne (d := 6) (t := 17) (by decide)).trans (h.r1 t).1, (h.r1 t).2.1, (OAt.fresh (h.r1 t).2.2 hf)⟩, r2 := fun t => (ev_ne (d := 6) (t := 18) (by decide)).trans (h.r2 t), r3 := fun t => ⟨(ev_ne (d := 6) (t := 19) (by decide)).trans (h.r3 t).1, (h.r3 t).2.1, (OAt.fresh (h.r3 t).2.2 hf)⟩, r4 := fun t => ⟨(ev_ne (d := 6) (t := 5) (by decide)).trans (h.r4 t).1, (h.r4 t).2.1, fun u => (Fresh.at hf ((h.r4 t).2.2.1 u)), fun u => (Fresh.at hf ((h.r4 t).2.2.2 u))⟩, r5 := fun _ => ⟨ev_same (by rw [h.fs]; decide), h.fr.size, fun u => (n7 u).elim, fun _ => at_new W zero6⟩, ne := fun t _ => Nat.ne_of_lt (h.lt4 t), l6 := h.l6, l7 := fun e => ⟨(h.l7 e).1, rfl, (h.l7 e).2.2⟩ }
set_option maxRecDepth 100000 in
theorem step6 (h : IC w0 p q b c d0 d1 d2 d3 d4 d5 d6 d7 a W) (hr : 6 ∈ Region.ready .any opsC #[d0, d1, d2, d3, d4, d5, d6, d7]) : wpOp Tryd.prog opsC Q 6 (IC w0 p q b c d0 d1 d2 d3 d4 d5 true d7) a W := by
  have hc := r_6 d0 d1 d2 d3 d4 d5 d6 d7 (List.contains_iff_mem.2 hr)
  obtain ⟨m, n, zx, zy, Bm, Bn, h⟩ := h
  simp only [Bool.and_eq_true] at hc
  obtain ⟨⟨⟨c6, c4⟩, c1⟩, c3⟩ := hc
  have e6 : d6 = false := by simpa using c6
  have hP : Pre3 w0 W b c p q m n Bm Bn := ⟨(h.r1 c1).2.2, (h.r3 c3).2.2, h.g1, h.g2, h.fr⟩
  have hz := (h.r4 c4).2.2.2 e6
  have hS := hP.set6 (x := m) hz (h.r4 c4).2.1
  refine wpOp_skip (o := oC_6) rfl rfl rfl (run_store6 (h.r4 c4).1 (h.r1 c1).1 hz) ⟨m, n, zx, zy, Bm, Bn, ?_⟩
  exact { h with g1 := hS.h1, g2 := hS.h2, fr := hS.fr, r1 := fun t => ⟨(h.r1 t).1, (h.r1 t).2.1, hS.om⟩, r3 := fun t => ⟨(h.r3 t).1, (h.r3 t).2.1, hS.on⟩, r4 := fun t => ⟨(h.r4 t).1, (h.r4 t).2.1, fun _ => set6_box hz, fun e => (nomatch e)⟩, r5 := fun t => ⟨(h.r5 t).1, (h.r5 t).2.1, fun u => set6_off ((h.r5 t).2.2.1 u) (Ne.symm (h.ne c4 t)), fun u => set6_off ((h.r5 t).2.2.2 u) (Ne.symm (h.ne c4 t))⟩, l6 := fun _ => ⟨c1, c4⟩, l7 := fun e => ⟨(h.l7 e).1, (h.l7 e).2.1, rfl⟩ }
set_option maxRecDepth 100000 in
theorem step7 (h : IC w0 p q b c d0 d1 d2 d3 d4 d5 d6 d7 a W) (hr : 7 ∈ Region.ready .any opsC #[d0, d1, d2, d3, d4, d5, d6, d7]) : wpOp Tryd.prog opsC Q 7 (IC w0 p q b c d0 d1 d2 d3 d4 d5 d6 true) a W := by
  have hc := r_7 d0 d1 d2 d3 d4 d5 d6 d7 (List.contains_iff_mem.2 hr)
  obtain ⟨m, n, zx, zy, Bm, Bn, h⟩ := h
  simp only [Bool.and_eq_true] at hc
  obtain ⟨⟨⟨c7, c5⟩, c3⟩, c6⟩ := hc
  have e7 : d7 = false := by simpa using c7
  obtain ⟨c1, c4⟩ := h.l6 c6
  have hP : Pre3 w0 W b c p q m n Bm Bn := ⟨(h.r1 c1).2.2, (h.r3 c3).2.2, h.g1, h.g2, h.fr⟩
  have hz := (h.r5 c5).2.2.2 e7
  have hS := hP.set6 (x := n) hz (h.r5 c5).2.1
  refine wpOp_skip (o := oC_7) rfl rfl rfl (run_store7 (h.r5 c5).1 (h.r3 c3).1 hz) ⟨m, n, zx, zy, Bm, Bn, ?_⟩
  exact { h with g1 := hS.h1, g2 := hS.h2, fr := hS.fr, r1 := fun t => ⟨(h.r1 t).1, (h.r1 t).2.1, hS.om⟩, r3 := fun t => ⟨(h.r3 t).1, (h.r3 t).2.1, hS.on⟩, r4 := fun t => ⟨(h.r4 t).1, (h.r4 t).2.1, fun u => set6_off ((h.r4 t).2.2.1 u) (h.ne t c5), fun u => set6_off ((h.r4 t).2.2.2 u) (h.ne t c5)⟩, r5 := fun t => ⟨(h.r5 t).1, (h.r5 t).2.1, fun _ => set6_box hz, fun e => (nomatch e)⟩, l7 := fun _ => ⟨c3, c5, c6⟩ }
end
/-- The region, whatever order Go takes it in. -/
theorem region3 {w0 : World} {p q : PM} {b c : Nat} {Q : Exit → Act → World → Prop} {a : Act} {W : World} (hp : p.At w0) (hq : q.At w0) (lp : p.Low) (lq : q.Low)
    (fs : a.tmps.size = 50) (fd : a.defers = []) (e2 : a.eval (.tmp 2) = .pointer (some ⟨b, 0, none⟩)) (e3 : a.eval (.tmp 3) = .pointer (some ⟨c, 0, none⟩)) (g1 : W.heap[b]? = some (podObj p 25)) (g2 : W.heap[c]? = some (podObj q 25)) (fr : Fresh w0 W)
    (hQ : ∀ a' W' m n zx zy, a'.tmps.size = 50 → a'.defers = [] → a'.eval (.tmp 2) = .pointer (some ⟨b, 0, none⟩) → a'.eval (.tmp 3) = .pointer (some ⟨c, 0, none⟩) → a'.eval (.tmp 5) = .pointer (some ⟨zx, 0, none⟩) → a'.eval (.tmp 6) = .pointer (some ⟨zy, 0, none⟩) → m.pd = p.pd → n.pd = q.pd → Res w0 W' b c zx zy p q m n → Q .normal a' W') :
    wpAny Tryd.prog .any opsC Q 8 #[false, false, false, false, false, false, false, false] a W := by
  refine any8 (IC w0 p q b c) ?_ ?_ ?_ (fun _ _ _ _ _ _ _ _ _ _ h hr => step0 h hr) (fun _ _ _ _ _ _ _ _ _ _ h hr => step1 hp lp h hr) (fun _ _ _ _ _ _ _ _ _ _ h hr => step2 h hr) (fun _ _ _ _ _ _ _ _ _ _ h hr => step3 hq lq h hr) (fun _ _ _ _ _ _ _ _ _ _ h hr => step4 h hr) (fun _ _ _ _ _ _ _ _ _ _ h hr => step5 h hr) (fun _ _ _ _ _ _ _ _ _ _ h hr => step6 h hr) (fun _ _ _ _ _ _ _ _ _ _ h hr => step7 h hr) 8 _ _ _ _ _ _ _ _ a W (by decide) ⟨p, q, 0, 0, 0, 0, ?_⟩
  · intro d0 d1 d2 d3 d4 d5 d6 d7 a' W' h hr
    have hd := r_done d0 d1 d2 d3 d4 d5 d6 d7 (by rw [hr]; rfl)
    simp only [Bool.and_eq_true] at hd
    obtain ⟨⟨⟨⟨⟨⟨⟨t0, t1⟩, t2⟩, t3⟩, t4⟩, t5⟩, t6⟩, t7⟩ := hd
    obtain ⟨m, n, zx, zy, Bm, Bn, h⟩ := h
    have hP : Pre3 w0 W' b c p q m n Bm Bn := ⟨(h.r1 t1).2.2, (h.r3 t3).2.2, h.g1, h.g2, h.fr⟩
    exact hQ a' W' m n zx zy h.fs h.fd h.e2 h.e3 (h.r4 t4).1 (h.r5 t5).1 (h.r1 t1).2.1 (h.r3 t3).2.1 (hP.res ((h.r4 t4).2.2.1 t6) ((h.r5 t5).2.2.1 t7))
  · intro d0 d1 d2 d3 d4 d5 d6 d7 k hk
    have := List.all_eq_true.1 (r_lt d0 d1 d2 d3 d4 d5 d6 d7) k hk
    simpa using this
  · decide +kernel
  · exact { fs := fs, fd := fd, e2 := e2, e3 := e3, g1 := g1, g2 := g2, fr := fr, r0 := fun e => (nomatch e), r1 := fun e => (nomatch e), r2 := fun e => (nomatch e), r3 := fun e => (nomatch e), r4 := fun e => (nomatch e), r5 := fun e => (nomatch e), ne := fun e => (nomatch e), l6 := fun e => (nomatch e), l7 := fun e => (nomatch e) }
end Go.Proofs.YtfhhmajkacjbgaaDoor
