/-
  ValueChecks, walked: what Build makes stands here as a hypothesis.
-/
import Derived.Test.YtonakfkiidhebaaDoorLift
import Derived.Test.YtonakfkiidhebaaDoorAwake
import Derived.Test.YtonakfkiidhebaaDoorRwrong
import Derived.Test.YtonakfkiidhebaaDoorSame2
import Derived.Test.YtonakfkiidhebaaDoorRsame2
namespace Go.Proofs.YtonakfkiidhebaaDoor
open Go.ChangeShapes Go.WideShapes Go.ChangeAt Go.RowKit
attribute [local go_sem ↓] Go.wp_at_zero Go.wp_at_succ
/-- What Build makes. -/
def BuildSays : Prop := ∀ (a : Option Addr) (len cap : Nat) (pt : Nat → Pt) (w : World), PartsAt w a len pt → len ≤ 80 → (∀ i, i < len → (pt i).text.size ≤ 40000) →
  Calls Tryd.prog 8 #[.slice a len cap] w fun e w' => (∃ X Y : M, e = .returned (.tuple #[X.val, Y.val]) ∧ X.At w' ∧ Y.At w' ∧ X.plain = Y.plain ∧ X.plain.size ≤ 81) ∧ Fresh w w'
set_option maxRecDepth 100000 in
set_option maxHeartbeats 8000000 in
theorem checks_main (hb : BuildSays) (a0 a1 : Option Addr) (l0 c0 l1 c1 : Nat) (P0 P1 : Nat → Pt) (w : World) (hT : Tabs w) (h0 : PartsAt w a0 l0 P0) (h1 : PartsAt w a1 l1 P1) (m0 : l0 ≤ 9223372036854775807) (m1 : l1 ≤ 9223372036854775807) :
    Calls Tryd.prog 3 #[.slice a0 l0 c0, .slice a1 l1 c1] w fun e w' => e = .returned (.bool true) ∧ Fresh w w' := by
  have HT := Lib.hid hT
  have HB := Lib.hid hb
  have H0 := Lib.hid h0
  have H1 := Lib.hid h1
  clear hT hb h0 h1
  go_enter Tryd.func3, Tryd.ntmps3
  go_wp2_with fail
  refine (small_any a0 l0 c0 P0 _ H0.out m0).mono ?_
  rintro e w1 ⟨r0, rfl, hr0, hf1⟩
  have HF1 := Lib.hid hf1
  have HR0 := Lib.hid hr0
  clear hf1 hr0
  cases r0 with
  | false =>
    go_wp2_with fail
    refine (awake_any _ (HT.out.move HF1.out)).mono ?_
    rintro e w2 ⟨rfl, hf2⟩
    go_wp2
    go_ret
    exact ⟨rfl, HF1.out.trans hf2⟩
  | true =>
    go_wp2_with fail
    refine (small_any a1 l1 c1 P1 _ (H1.out.move HF1.out) m1).mono ?_
    rintro e w2 ⟨r1, rfl, hr1, hf2⟩
    have HF2 := Lib.hid (HF1.out.trans hf2)
    have HR1 := Lib.hid hr1
    clear hf2 hr1
    cases r1 with
    | false =>
      go_wp2_with fail
      refine (awake_any _ (HT.out.move HF2.out)).mono ?_
      rintro e w3 ⟨rfl, hf3⟩
      go_wp2
      go_ret
      exact ⟨rfl, HF2.out.trans hf3⟩
    | true =>
      go_wp2_with fail
      refine (HB.out a0 l0 c0 P0 _ (H0.out.move HF2.out) (HR0.out (by trivial)).1 (HR0.out (by trivial)).2).mono ?_
      rintro e w3 ⟨⟨X, Y, rfl, hX, hY, hXY, hXs⟩, hf3⟩
      have HF3 := Lib.hid (HF2.out.trans hf3)
      have HX := Lib.hid hX
      have HY := Lib.hid hY
      have HXY := Lib.hid hXY
      have HXS := Lib.hid hXs
      have HXV : Hid (∀ V, X.val = V → X.val = V) := fun _ h => h
      clear hf3 hX hY hXY hXs HXV
      obtain ⟨xk, xf, xn, xs, xla, xlc, xl, xka, xkc, xks⟩ := X
      obtain ⟨yk, yf, yn, ys, yla, ylc, yl, yka, ykc, yks⟩ := Y
      dsimp only [M.val]
      obtain ⟨X, EX⟩ : ∃ X : M, Hid (X = M.mk xk xf xn xs xla xlc xl xka xkc xks) := ⟨_, rfl⟩
      obtain ⟨Y, EY⟩ : ∃ Y : M, Hid (Y = M.mk yk yf yn ys yla ylc yl yka ykc yks) := ⟨_, rfl⟩
      have VX : Hid (X.val = mval xk xf xn xs xla xl.length xlc xka xks.length xkc) := by rw [EX.out]; rfl
      have VY : Hid (Y.val = mval yk yf yn ys yla yl.length ylc yka yks.length ykc) := by rw [EY.out]; rfl
      rw [← EX.out] at HX HXY HXS
      rw [← EY.out] at HY HXY
      clear EX EY
      generalize xl.length = xln at *
      generalize xks.length = xkn at *
      generalize yl.length = yln at *
      generalize yks.length = ykn at *
      go_wp2_with fail
      refine (HB.out a1 l1 c1 P1 _ (H1.out.move ((HF3.out.alloc _).alloc _)) (HR1.out (by trivial)).1 (HR1.out (by trivial)).2).mono ?_
      rintro e w4 ⟨⟨U, Z, rfl, hU, hZ, hUZ, hUs⟩, hf4⟩
      have HF4 := Lib.hid hf4
      have HU := Lib.hid hU
      have HZ := Lib.hid hZ
      have HUZ := Lib.hid hUZ
      have B5 : Hid (w4.heap[w3.heap.size]? = some (.cells #[.int .i64 xk, .bool xf, .int .i64 xn, .string xs, .slice xla xln xlc, .slice xka xkn xkc] 29 (0, 0))) := hf4.at (boxes_two w3 _ _).1
      have B6 : Hid (w4.heap[w3.heap.size + 1]? = some (.cells #[.int .i64 yk, .bool yf, .int .i64 yn, .string ys, .slice yla yln ylc, .slice yka ykn ykc] 33 (0, 0))) := hf4.at (boxes_two w3 _ _).2
      clear hf4 hU hZ hUZ hUs
      obtain ⟨uk, uf, un, us, ula, ulc, ul, uka, ukc, uks⟩ := U
      obtain ⟨vk, vf, vn, vs, vla, vlc, vl, vka, vkc, vks⟩ := Z
      dsimp only [M.val]
      obtain ⟨U, EU⟩ : ∃ U : M, Hid (U = M.mk uk uf un us ula ulc ul uka ukc uks) := ⟨_, rfl⟩
      obtain ⟨Z, EZ⟩ : ∃ Z : M, Hid (Z = M.mk vk vf vn vs vla vlc vl vka vkc vks) := ⟨_, rfl⟩
      have VU : Hid (U.val = mval uk uf un us ula ul.length ulc uka uks.length ukc) := by rw [EU.out]; rfl
      have VZ : Hid (Z.val = mval vk vf vn vs vla vl.length vlc vka vks.length vkc) := by rw [EZ.out]; rfl
      rw [← EU.out] at HU HUZ
      rw [← EZ.out] at HZ HUZ
      clear EU EZ
      generalize ul.length = uln at *
      generalize uks.length = ukn at *
      generalize vl.length = vln at *
      generalize vks.length = vkn at *
      go_wp2_with fail
      have B7 : Hid (((w4.alloc (.cells #[.int .i64 uk, .bool uf, .int .i64 un, .string us, .slice ula uln ulc, .slice uka ukn ukc] 29)).alloc (.cells #[.int .i64 vk, .bool vf, .int .i64 vn, .string vs, .slice vla vln vlc, .slice vka vkn vkc] 33)).heap[w4.heap.size]? = some (.cells #[.int .i64 uk, .bool uf, .int .i64 un, .string us, .slice ula uln ulc, .slice uka ukn ukc] 29 (0, 0))) := (boxes_two w4 _ _).1
      have B8 : Hid (((w4.alloc (.cells #[.int .i64 uk, .bool uf, .int .i64 un, .string us, .slice ula uln ulc, .slice uka ukn ukc] 29)).alloc (.cells #[.int .i64 vk, .bool vf, .int .i64 vn, .string vs, .slice vla vln vlc, .slice vka vkn vkc] 33)).heap[w4.heap.size + 1]? = some (.cells #[.int .i64 vk, .bool vf, .int .i64 vn, .string vs, .slice vla vln vlc, .slice vka vkn vkc] 33 (0, 0))) := (boxes_two w4 _ _).2
      have F4 : Hid (Fresh w4 ((w4.alloc (.cells #[.int .i64 uk, .bool uf, .int .i64 un, .string us, .slice ula uln ulc, .slice uka ukn ukc] 29)).alloc (.cells #[.int .i64 vk, .bool vf, .int .i64 vn, .string vs, .slice vla vln vlc, .slice vka vkn vkc] 33))) := ((Fresh.refl w4).alloc _).alloc _
      have F3 : Hid (Fresh w3 ((w4.alloc (.cells #[.int .i64 uk, .bool uf, .int .i64 un, .string us, .slice ula uln ulc, .slice uka ukn ukc] 29)).alloc (.cells #[.int .i64 vk, .bool vf, .int .i64 vn, .string vs, .slice vla vln vlc, .slice vka vkn vkc] 33))) := (((Fresh.refl w3).alloc _).alloc _).trans (HF4.out.trans F4.out)
      generalize (w4.alloc (.cells #[.int .i64 uk, .bool uf, .int .i64 un, .string us, .slice ula uln ulc, .slice uka ukn ukc] 29)).alloc (.cells #[.int .i64 vk, .bool vf, .int .i64 vn, .string vs, .slice vla vln vlc, .slice vka vkn vkc] 33) = wb at *
      have G5 : Hid (wb.heap[w3.heap.size]? = some (.cells #[.int .i64 xk, .bool xf, .int .i64 xn, .string xs, .slice xla xln xlc, .slice xka xkn xkc] 29 (0, 0))) := F4.out.at B5.out
      have G6 : Hid (wb.heap[w3.heap.size + 1]? = some (.cells #[.int .i64 yk, .bool yf, .int .i64 yn, .string ys, .slice yla yln ylc, .slice yka ykn ykc] 33 (0, 0))) := F4.out.at B6.out
      generalize w3.heap.size + 1 = b6 at *
      generalize hb5 : w3.heap.size = b5 at *
      generalize w4.heap.size + 1 = b8 at *
      generalize hb7 : w4.heap.size = b7 at *
      clear hb5 hb7
      have FW : Hid (Fresh w wb.drew) := (HF3.out.trans F3.out).drew
      have HKP : Hid (∀ w', Fresh wb.drew w' → (w'.cell? ⟨b5, 0, none⟩ = some (.int .i64 xk) ∧ w'.cell? ⟨b5, 1, none⟩ = some (.bool xf) ∧ w'.cell? ⟨b5, 2, none⟩ = some (.int .i64 xn) ∧ w'.cell? ⟨b5, 3, none⟩ = some (.string xs) ∧ w'.cell? ⟨b5, 4, none⟩ = some (.slice xla xln xlc) ∧ w'.cell? ⟨b5, 5, none⟩ = some (.slice xka xkn xkc) ∧ w'.cell? ⟨b6, 0, none⟩ = some (.int .i64 yk) ∧ w'.cell? ⟨b6, 1, none⟩ = some (.bool yf) ∧ w'.cell? ⟨b6, 2, none⟩ = some (.int .i64 yn) ∧ w'.cell? ⟨b6, 3, none⟩ = some (.string ys) ∧ w'.cell? ⟨b6, 4, none⟩ = some (.slice yla yln ylc) ∧ w'.cell? ⟨b6, 5, none⟩ = some (.slice yka ykn ykc) ∧ w'.cell? ⟨b7, 0, none⟩ = some (.int .i64 uk) ∧ w'.cell? ⟨b7, 1, none⟩ = some (.bool uf) ∧ w'.cell? ⟨b7, 2, none⟩ = some (.int .i64 un) ∧ w'.cell? ⟨b7, 3, none⟩ = some (.string us) ∧ w'.cell? ⟨b7, 4, none⟩ = some (.slice ula uln ulc) ∧ w'.cell? ⟨b7, 5, none⟩ = some (.slice uka ukn ukc) ∧ w'.cell? ⟨b8, 0, none⟩ = some (.int .i64 vk) ∧ w'.cell? ⟨b8, 1, none⟩ = some (.bool vf) ∧ w'.cell? ⟨b8, 2, none⟩ = some (.int .i64 vn) ∧ w'.cell? ⟨b8, 3, none⟩ = some (.string vs) ∧ w'.cell? ⟨b8, 4, none⟩ = some (.slice vla vln vlc) ∧ w'.cell? ⟨b8, 5, none⟩ = some (.slice vka vkn vkc))) := fun w' hf => by
        obtain ⟨p0, p1, p2, p3, p4, p5⟩ := box6' (hf.at (show wb.drew.heap[b5]? = _ from G5.out))
        obtain ⟨q0, q1, q2, q3, q4, q5⟩ := box6' (hf.at (show wb.drew.heap[b6]? = _ from G6.out))
        obtain ⟨r0, r1, r2, r3, r4, r5⟩ := box6' (hf.at (show wb.drew.heap[b7]? = _ from B7.out))
        obtain ⟨s0, s1, s2, s3, s4, s5⟩ := box6' (hf.at (show wb.drew.heap[b8]? = _ from B8.out))
        exact ⟨p0, p1, p2, p3, p4, p5, q0, q1, q2, q3, q4, q5, r0, r1, r2, r3, r4, r5, s0, s1, s2, s3, s4, s5⟩
      have AX : Hid (∀ W, Fresh wb.drew W → X.At W) := fun W hf => HX.out.move (F3.out.drew.trans hf)
      have AY : Hid (∀ W, Fresh wb.drew W → Y.At W) := fun W hf => HY.out.move (F3.out.drew.trans hf)
      have AU : Hid (∀ W, Fresh wb.drew W → U.At W) := fun W hf => HU.out.move (F4.out.drew.trans hf)
      have AZ : Hid (∀ W, Fresh wb.drew W → Z.At W) := fun W hf => HZ.out.move (F4.out.drew.trans hf)
      have SX : X.plain.size ≤ 1000000 := Nat.le_trans HXS.out (by omega)
      have SY : Y.plain.size ≤ 1000000 := by rw [← HXY.out]; exact SX
      have HC1 : Hid (∀ W, Fresh wb.drew W → Calls Tryd.prog 7 #[] W fun e w' => e = .returned (.bool true) ∧ Fresh W w') := fun W hf => awake_any W (HT.out.move (FW.out.trans hf))
      have HC2 : Hid (∀ W, Fresh wb.drew W → Calls Tryd.prog 9 #[mval xk xf xn xs xla xln xlc xka xkn xkc] W fun e w' => e = .returned (.int .i64 X.plain.check) ∧ Fresh W w') := fun W hf => by rw [← VX.out]; exact check_any X W (HT.out.move (FW.out.trans hf)) (AX.out W hf)
      have HC3 : Hid (∀ W, Fresh wb.drew W → Calls Tryd.prog 10 #[mval yk yf yn ys yla yln ylc yka ykn ykc] W fun e w' => e = .returned (.int .i64 X.plain.check) ∧ Fresh W w') := fun W hf => by rw [← VY.out, HXY.out]; exact rcheck_any Y W (AY.out W hf) SY
      have HC4 : Hid (∀ W, Fresh wb.drew W → Calls Tryd.prog 11 #[mval xk xf xn xs xla xln xlc xka xkn xkc] W fun e w' => e = .returned (.int .i64 X.plain.depth) ∧ Fresh W w') := fun W hf => by rw [← VX.out]; exact depth_any X W (AX.out W hf) SX
      have HC5 : Hid (∀ W, Fresh wb.drew W → Calls Tryd.prog 12 #[mval yk yf yn ys yla yln ylc yka ykn ykc] W fun e w' => e = .returned (.int .i64 X.plain.depth) ∧ Fresh W w') := fun W hf => by rw [← VY.out, HXY.out]; exact rdepth_any Y W (AY.out W hf) SY
      have HC6 : Hid (∀ W, Fresh wb.drew W → Calls Tryd.prog 13 #[mval xk xf xn xs xla xln xlc xka xkn xkc, mval uk uf un us ula uln ulc uka ukn ukc] W fun e w' => e = .returned (.bool (X.plain.same U.plain)) ∧ Fresh W w') := fun W hf => by rw [← VX.out, ← VU.out]; exact same_any X U W (AX.out W hf) (AU.out W hf) SX
      have HC7 : Hid (∀ W, Fresh wb.drew W → Calls Tryd.prog 14 #[mval yk yf yn ys yla yln ylc yka ykn ykc, mval vk vf vn vs vla vln vlc vka vkn vkc] W fun e w' => e = .returned (.bool (X.plain.same U.plain)) ∧ Fresh W w') := fun W hf => by rw [← VY.out, ← VZ.out, HXY.out, HUZ.out]; exact rsame_any Y Z W (AY.out W hf) (AZ.out W hf)
      have HC8 : Hid (∀ W, Fresh wb.drew W → Calls Tryd.prog 13 #[mval xk xf xn xs xla xln xlc xka xkn xkc, mval xk xf xn xs xla xln xlc xka xkn xkc] W fun e w' => e = .returned (.bool true) ∧ Fresh W w') := fun W hf => by rw [← VX.out, ← X.plain.same_refl]; exact same_any X X W (AX.out W hf) (AX.out W hf) SX
      have HF0 : Hid (Fresh wb.drew wb.drew) := Fresh.refl _
      obtain ⟨p0, p1, p2, p3, p4, p5, q0, q1, q2, q3, q4, q5, r0, r1, r2, r3, r4, r5, s0, s1, s2, s3, s4, s5⟩ := HKP.out wb.drew (Fresh.refl _)
      clear SX SY AX AY AU AZ VX VY VU VZ HX HY HU HZ HXY HUZ HXS B5 B6 G5 G6 B7 B8 F3 F4 HB H0 H1 HR0 HR1
      generalize X.plain.check = cc at *
      generalize X.plain.depth = dd at *
      generalize X.plain.same U.plain = ss at *
      go_region_held3 (fun w' => (w'.cell? ⟨b5, 0, none⟩ = some (.int .i64 xk) ∧ w'.cell? ⟨b5, 1, none⟩ = some (.bool xf) ∧ w'.cell? ⟨b5, 2, none⟩ = some (.int .i64 xn) ∧ w'.cell? ⟨b5, 3, none⟩ = some (.string xs) ∧ w'.cell? ⟨b5, 4, none⟩ = some (.slice xla xln xlc) ∧ w'.cell? ⟨b5, 5, none⟩ = some (.slice xka xkn xkc) ∧ w'.cell? ⟨b6, 0, none⟩ = some (.int .i64 yk) ∧ w'.cell? ⟨b6, 1, none⟩ = some (.bool yf) ∧ w'.cell? ⟨b6, 2, none⟩ = some (.int .i64 yn) ∧ w'.cell? ⟨b6, 3, none⟩ = some (.string ys) ∧ w'.cell? ⟨b6, 4, none⟩ = some (.slice yla yln ylc) ∧ w'.cell? ⟨b6, 5, none⟩ = some (.slice yka ykn ykc) ∧ w'.cell? ⟨b7, 0, none⟩ = some (.int .i64 uk) ∧ w'.cell? ⟨b7, 1, none⟩ = some (.bool uf) ∧ w'.cell? ⟨b7, 2, none⟩ = some (.int .i64 un) ∧ w'.cell? ⟨b7, 3, none⟩ = some (.string us) ∧ w'.cell? ⟨b7, 4, none⟩ = some (.slice ula uln ulc) ∧ w'.cell? ⟨b7, 5, none⟩ = some (.slice uka ukn ukc) ∧ w'.cell? ⟨b8, 0, none⟩ = some (.int .i64 vk) ∧ w'.cell? ⟨b8, 1, none⟩ = some (.bool vf) ∧ w'.cell? ⟨b8, 2, none⟩ = some (.int .i64 vn) ∧ w'.cell? ⟨b8, 3, none⟩ = some (.string vs) ∧ w'.cell? ⟨b8, 4, none⟩ = some (.slice vla vln vlc) ∧ w'.cell? ⟨b8, 5, none⟩ = some (.slice vka vkn vkc))) (go_keep)
        (first
          | (go_at_call 7; (with_reducible refine (HC1.out _ HF0.out).mono ?_); rintro e W1 ⟨rfl, hf1⟩; have HF1 := Lib.hid (HF0.out.trans hf1); clear hf1; obtain ⟨p0_1, p1_1, p2_1, p3_1, p4_1, p5_1, q0_1, q1_1, q2_1, q3_1, q4_1, q5_1, r0_1, r1_1, r2_1, r3_1, r4_1, r5_1, s0_1, s1_1, s2_1, s3_1, s4_1, s5_1⟩ := HKP.out _ HF1.out)
          | (go_at_call 9; (with_reducible refine (HC2.out _ HF1.out).mono ?_); rintro e W2 ⟨rfl, hf2⟩; have HF2 := Lib.hid (HF1.out.trans hf2); clear hf2; obtain ⟨p0_2, p1_2, p2_2, p3_2, p4_2, p5_2, q0_2, q1_2, q2_2, q3_2, q4_2, q5_2, r0_2, r1_2, r2_2, r3_2, r4_2, r5_2, s0_2, s1_2, s2_2, s3_2, s4_2, s5_2⟩ := HKP.out _ HF2.out)
          | (go_at_call 10; (with_reducible refine (HC3.out _ HF2.out).mono ?_); rintro e W3 ⟨rfl, hf3⟩; have HF3 := Lib.hid (HF2.out.trans hf3); clear hf3; obtain ⟨p0_3, p1_3, p2_3, p3_3, p4_3, p5_3, q0_3, q1_3, q2_3, q3_3, q4_3, q5_3, r0_3, r1_3, r2_3, r3_3, r4_3, r5_3, s0_3, s1_3, s2_3, s3_3, s4_3, s5_3⟩ := HKP.out _ HF3.out)
          | (go_at_call 11; (with_reducible refine (HC4.out _ HF3.out).mono ?_); rintro e W4 ⟨rfl, hf4⟩; have HF4 := Lib.hid (HF3.out.trans hf4); clear hf4; obtain ⟨p0_4, p1_4, p2_4, p3_4, p4_4, p5_4, q0_4, q1_4, q2_4, q3_4, q4_4, q5_4, r0_4, r1_4, r2_4, r3_4, r4_4, r5_4, s0_4, s1_4, s2_4, s3_4, s4_4, s5_4⟩ := HKP.out _ HF4.out)
          | (go_at_call 12; (with_reducible refine (HC5.out _ HF4.out).mono ?_); rintro e W5 ⟨rfl, hf5⟩; have HF5 := Lib.hid (HF4.out.trans hf5); clear hf5; obtain ⟨p0_5, p1_5, p2_5, p3_5, p4_5, p5_5, q0_5, q1_5, q2_5, q3_5, q4_5, q5_5, r0_5, r1_5, r2_5, r3_5, r4_5, r5_5, s0_5, s1_5, s2_5, s3_5, s4_5, s5_5⟩ := HKP.out _ HF5.out)
          | (go_at_call 13; (with_reducible refine (HC6.out _ HF5.out).mono ?_); rintro e W6 ⟨rfl, hf6⟩; have HF6 := Lib.hid (HF5.out.trans hf6); clear hf6; obtain ⟨p0_6, p1_6, p2_6, p3_6, p4_6, p5_6, q0_6, q1_6, q2_6, q3_6, q4_6, q5_6, r0_6, r1_6, r2_6, r3_6, r4_6, r5_6, s0_6, s1_6, s2_6, s3_6, s4_6, s5_6⟩ := HKP.out _ HF6.out)
          | (go_at_call 14; (with_reducible refine (HC7.out _ HF6.out).mono ?_); rintro e W7 ⟨rfl, hf7⟩; have HF7 := Lib.hid (HF6.out.trans hf7); clear hf7; obtain ⟨p0_7, p1_7, p2_7, p3_7, p4_7, p5_7, q0_7, q1_7, q2_7, q3_7, q4_7, q5_7, r0_7, r1_7, r2_7, r3_7, r4_7, r5_7, s0_7, s1_7, s2_7, s3_7, s4_7, s5_7⟩ := HKP.out _ HF7.out)
          | (go_at_call 13; (with_reducible refine (HC8.out _ HF7.out).mono ?_); rintro e W8 ⟨rfl, hf8⟩; have HF8 := Lib.hid (HF7.out.trans hf8); clear hf8; obtain ⟨p0_8, p1_8, p2_8, p3_8, p4_8, p5_8, q0_8, q1_8, q2_8, q3_8, q4_8, q5_8, r0_8, r1_8, r2_8, r3_8, r4_8, r5_8, s0_8, s1_8, s2_8, s3_8, s4_8, s5_8⟩ := HKP.out _ HF8.out)
          )
      go_wp2
      go_ret
      exact ⟨rfl, FW.out.trans HF8.out⟩
theorem walks3 (hb : BuildSays) : Walks3 := fun a0 a1 l0 c0 l1 c1 p0 p1 W hT h0 h1 m0 m1 => checks_main hb a0 a1 l0 c0 l1 c1 p0 p1 W hT h0 h1 m0 m1
theorem checks_card (hb : BuildSays) : Rows.ValueChecksCardSaid := card_holds (walks3 hb)
end Go.Proofs.YtonakfkiidhebaaDoor
