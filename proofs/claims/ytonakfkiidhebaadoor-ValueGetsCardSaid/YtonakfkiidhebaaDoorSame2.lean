/-
  Package value: Same, of two that are alike outside.
-/
import Derived.Test.YtonakfkiidhebaaDoorSame
namespace Go.Proofs.YtonakfkiidhebaaDoor
open Go.ChangeShapes Go.WideShapes Go.ChangeAt Go.RowKit
attribute [local go_sem ↓] Go.wp_at_zero Go.wp_at_succ
variable {w : World}

set_option maxRecDepth 100000 in
set_option maxHeartbeats 4000000 in
theorem same_yes (m m' : M) (w : World) (hm : m.At w) (hm' : m'.At w) (hs : m.plain.size ≤ 1000000) (ha : m.plain.alike m'.plain = true) : Calls Tryd.prog 13 #[m.val, m'.val] w fun e w' => e = .returned (.bool (sin m.plain m'.plain)) ∧ Fresh w w' := by
  obtain ⟨i0, hi, hz0, hz1, hz2⟩ := info_parts info68
  have HQ : Hid (∀ W, Fresh w W → Calls Tryd.prog 29 #[m.val, m'.val] W fun e w' => e = .returned (.bool true) ∧ Fresh W w') := fun W hf => by rw [← ha]; exact alike_any m m' W (hm.move hf) (hm'.move hf)
  have HR : Hid (Todo2 w (sin m.plain m'.plain) [(m, m')]) := ⟨fun p hp => by rw [List.mem_singleton] at hp; subst hp; exact ⟨hm, hm'⟩, by simp [pst2, allS]⟩
  have HZ : Hid (szs2 (pst2 [(m, m')]) ≤ 1000000) := by simp [Hid, pst2, szs2]; exact hs
  have HL := Lib.hid (left2_start m m' w)
  generalize sin m.plain m'.plain = R at *
  clear hm hm' ha hs
  obtain ⟨k, f, n, s, la, lc, l, ka, kc, ks⟩ := m
  obtain ⟨k', f', n', s', la', lc', l', ka', kc', ks'⟩ := m'
  dsimp only [M.val, M.cells] at *
  generalize hM : M.mk k f n s la lc l ka kc ks = m at *
  generalize hM' : M.mk k' f' n' s' la' lc' l' ka' kc' ks' = m' at *
  clear hM hM'
  generalize l.length = ln at *
  generalize ks.length = kn at *
  generalize l'.length = ln' at *
  generalize ks'.length = kn' at *
  go_enter Tryd.func13, Tryd.ntmps13
  go_wp2_with fail
  refine (HQ.out _ (((Fresh.refl w).alloc _).alloc _)).mono ?_
  rintro e w1 ⟨rfl, hf⟩
  obtain ⟨b0, b1, b2, b3, b4, b5⟩ := box6 (hf.at (at_alloc (at_new w _)))
  obtain ⟨c0, c1, c2, c3, c4, c5⟩ := box6 (b := w.heap.size + 1) (hf.at (by have := at_new (w.alloc (.cells #[.int .i64 k, .bool f, .int .i64 n, .string s, .slice la ln lc, .slice ka kn kc] 29)) (.cells #[.int .i64 k', .bool f', .int .i64 n', .string s', .slice la' ln' lc', .slice ka' kn' kc'] 29); rw [World.size_alloc] at this; exact this))
  have HF := Lib.hid ((((Fresh.refl w).alloc _).alloc _).trans hf)
  have hz : w.heap.size < w1.heap.size := World.block_lt_of_cell? w1 _ b0
  clear hf
  go_wp2
  have HL1 : Hid (Left2 w _ _ _ _) := HL.out _ w1.heap.size (at_new w1 _) (Nat.le_of_lt hz) (HF.out.alloc _)
  clear HL b0 b1 b2 b3 b4 b5 c0 c1 c2 c3 c4 c5
  go_loopg [5] (szs2 (pst2 [(m, m')])) (fun gg a5 wr => ∃ (c q : Nat) (a : Option Addr) (st : List (M × M)), a5 = .slice a q c ∧ Hid (q = st.length) ∧ Hid (szs2 (pst2 st) ≤ gg) ∧ Hid (gg ≤ 1000000) ∧ Hid (Left2 w wr a c st) ∧ Hid (Todo2 w R st))
  case atStart => exact ⟨1, 1, _, [(m, m')], rfl, rfl, Nat.le_refl _, HZ, HL1, HR⟩
  case round =>
    obtain ⟨c, q, a, st, rfl, HN, HG, HG2, HLe, HT⟩ := hrel
    obtain ⟨wo, rfl⟩ : ∃ wo : World, wo = wr := ⟨_, rfl⟩
    clear HL1 HR HZ
    rcases List.eq_nil_or_concat st with rfl | ⟨st0, ⟨x, y⟩, e⟩
    · have hd := HT.out.res
      simp only [pst2, List.map_nil, allS, List.all_nil] at hd
      have HD := Lib.hid hd
      obtain rfl : q = 0 := HN.out
      clear hd
      go_wp2
      go_ret
      exact ⟨ret_bool (by rw [← HD.out]), HLe.out.fresh⟩
    · rw [List.concat_eq_append] at e
      subst e
      obtain ⟨g, ea, hgB, hpc, hlx, hly, hleft⟩ := HLe.out.last
      obtain rfl : q = st0.length + 1 := by rw [HN.out]; simp
      subst ea
      have hxy := HT.out.all (x, y) (by simp)
      have HTS := Lib.hid HT.out.step
      have HTP := Lib.hid HT.out.parted
      have hfr := hleft.fresh
      have HIX : Hid (∀ W, Fresh w W → Calls Tryd.prog 28 #[x.val] W (InsideIs x W)) := fun W hf => inside_any x W (hxy.1.move hf)
      have HIY : Hid (∀ W, Fresh w W → Calls Tryd.prog 28 #[y.val] W (InsideIs y W)) := fun W hf => inside_any y W (hxy.2.move hf)
      have HAX : Hid (x.At w) := hxy.1
      have HAY : Hid (y.At w) := hxy.2
      have HLF := Lib.hid hleft
      have HSZ : Hid (szs2 (pst2 (st0 ++ [(x, y)])) ≤ gk) := HG.out
      have hpb : st0.length + 1 ≤ 1000000 := by have h1 := szs2_length (pst2 (st0 ++ [(x, y)])); have h2 := HSZ.out; have h3 := HG2.out; simp [pst2] at h1 h2; omega
      have HFR := Lib.hid hfr
      obtain ⟨xk, xf, xn, xs, xla, xlc, xl, xka, xkc, xks⟩ := x
      obtain ⟨yk, yf, yn, ys, yla, ylc, yl, yka, ykc, yks⟩ := y
      obtain ⟨c0, c1, c2, c3, c4, c5⟩ := hlx
      obtain ⟨d0, d1, d2, d3, d4, d5⟩ := hly
      have hgl : g < wo.heap.size := World.block_lt_of_cell? wo _ c0
      clear HLe HT hleft hxy hfr HG HN
      generalize hp : st0.length = p at *
      have HP := Lib.hid hp
      clear hp
      dsimp only [M.val] at HIX HIY
      generalize hX : M.mk xk xf xn xs xla xlc xl xka xkc xks = x at *
      generalize hY : M.mk yk yf yn ys yla ylc yl yka ykc yks = y at *
      clear hX hY
      generalize xl.length = xln at *
      generalize xks.length = xkn at *
      generalize yl.length = yln at *
      generalize yks.length = ykn at *
      go_wp2_with fail
      obtain ⟨⟨k0, k1, k2, k3, k4, k5⟩, ⟨l0, l1, l2, l3, l4, l5⟩⟩ := box12 (at_new wo (.cells #[.int .i64 xk, .bool xf, .int .i64 xn, .string xs, .slice xla xln xlc, .slice xka xkn xkc, .int .i64 yk, .bool yf, .int .i64 yn, .string ys, .slice yla yln ylc, .slice yka ykn ykc] 68))
      have HF0 := Lib.hid (HFR.out.alloc (.cells #[.int .i64 xk, .bool xf, .int .i64 xn, .string xs, .slice xla xln xlc, .slice xka xkn xkc, .int .i64 yk, .bool yf, .int .i64 yn, .string ys, .slice yla yln ylc, .slice yka ykn ykc] 68))
      have HL0 := Lib.hid (HLF.out.move ((Fresh.refl wo).alloc (.cells #[.int .i64 xk, .bool xf, .int .i64 xn, .string xs, .slice xla xln xlc, .slice xka xkn xkc, .int .i64 yk, .bool yf, .int .i64 yn, .string ys, .slice yla yln ylc, .slice yka ykn ykc] 68)))
      have hgb : g < (wo.alloc (.cells #[.int .i64 xk, .bool xf, .int .i64 xn, .string xs, .slice xla xln xlc, .slice xka xkn xkc, .int .i64 yk, .bool yf, .int .i64 yn, .string ys, .slice yla yln ylc, .slice yka ykn ykc] 68)).heap.size := by rw [World.size_alloc]; omega
      generalize wo.alloc (.cells #[.int .i64 xk, .bool xf, .int .i64 xn, .string xs, .slice xla xln xlc, .slice xka xkn xkc, .int .i64 yk, .bool yf, .int .i64 yn, .string ys, .slice yla yln ylc, .slice yka ykn ykc] 68) = wb at *
      clear c0 c1 c2 c3 c4 c5 d0 d1 d2 d3 d4 d5 HLF HFR
      generalize wo.heap.size = bx at *
      have HFD := Lib.hid HF0.out.drew
      have HLD : Hid (Left2 w wb.drew (some ⟨g, 0, none⟩) c st0) := HL0.out.move ((Fresh.refl wb).drew)
      have HB : Hid (∀ w', Fresh wb.drew w' → (w'.cell? ⟨bx, 0, none⟩ = some (.int .i64 xk) ∧ w'.cell? ⟨bx, 1, none⟩ = some (.bool xf) ∧ w'.cell? ⟨bx, 2, none⟩ = some (.int .i64 xn) ∧ w'.cell? ⟨bx, 3, none⟩ = some (.string xs) ∧ w'.cell? ⟨bx, 4, none⟩ = some (.slice xla xln xlc) ∧ w'.cell? ⟨bx, 5, none⟩ = some (.slice xka xkn xkc) ∧ w'.cell? ⟨bx, 6, none⟩ = some (.int .i64 yk) ∧ w'.cell? ⟨bx, 7, none⟩ = some (.bool yf) ∧ w'.cell? ⟨bx, 8, none⟩ = some (.int .i64 yn) ∧ w'.cell? ⟨bx, 9, none⟩ = some (.string ys) ∧ w'.cell? ⟨bx, 10, none⟩ = some (.slice yla yln ylc) ∧ w'.cell? ⟨bx, 11, none⟩ = some (.slice yka ykn ykc))) := fun w' hf => ⟨hf.cell (a := wb.drew) k0, hf.cell (a := wb.drew) k1, hf.cell (a := wb.drew) k2, hf.cell (a := wb.drew) k3, hf.cell (a := wb.drew) k4, hf.cell (a := wb.drew) k5, hf.cell (a := wb.drew) l0, hf.cell (a := wb.drew) l1, hf.cell (a := wb.drew) l2, hf.cell (a := wb.drew) l3, hf.cell (a := wb.drew) l4, hf.cell (a := wb.drew) l5⟩
      clear HF0 HL0
      go_region_held3 (fun w' => (w'.cell? ⟨bx, 0, none⟩ = some (.int .i64 xk) ∧ w'.cell? ⟨bx, 1, none⟩ = some (.bool xf) ∧ w'.cell? ⟨bx, 2, none⟩ = some (.int .i64 xn) ∧ w'.cell? ⟨bx, 3, none⟩ = some (.string xs) ∧ w'.cell? ⟨bx, 4, none⟩ = some (.slice xla xln xlc) ∧ w'.cell? ⟨bx, 5, none⟩ = some (.slice xka xkn xkc) ∧ w'.cell? ⟨bx, 6, none⟩ = some (.int .i64 yk) ∧ w'.cell? ⟨bx, 7, none⟩ = some (.bool yf) ∧ w'.cell? ⟨bx, 8, none⟩ = some (.int .i64 yn) ∧ w'.cell? ⟨bx, 9, none⟩ = some (.string ys) ∧ w'.cell? ⟨bx, 10, none⟩ = some (.slice yla yln ylc) ∧ w'.cell? ⟨bx, 11, none⟩ = some (.slice yka ykn ykc))) (go_keep)
        (first
          | (go_at_call 28; (with_reducible refine (HIX.out _ HFD.out).mono ?_); rintro e W1 ⟨ia, ic, rfl, hra, hf1, hsa⟩; obtain ⟨q0, q1, q2, q3, q4, q5, r0, r1, r2, r3, r4, r5⟩ := HB.out _ hf1; have HF1 := Lib.hid (HFD.out.trans hf1); have HW1 := Lib.hid hf1; have HRA := Lib.hid hra; have HSA := Lib.hid hsa; clear hra hf1 hsa)
          | (go_at_call 28; (with_reducible refine (HIY.out _ HF1.out).mono ?_); rintro e W2 ⟨ib, ic2, rfl, hrb, hf2, hsb⟩; obtain ⟨s0, s1, s2, s3, s4, s5, t0, t1, t2, t3, t4, t5⟩ := HB.out _ (HW1.out.trans hf2); have HF2 := Lib.hid (HF1.out.trans hf2); have HW2 := Lib.hid hf2; have HRB := Lib.hid hrb; have HSB := Lib.hid hsb; clear hrb hf2 hsb))
      clear k0 k1 k2 k3 k4 k5 l0 l1 l2 l3 l4 l5 q0 q1 q2 q3 q4 q5 r0 r1 r2 r3 r4 r5 s0 s1 s2 s3 s4 s5 t0 t1 t2 t3 t4 t5 HB HIX HIY
      have HRA2 := Lib.hid (HRA.out.move HW2.out)
      have HAPX := Lib.hid (apart_start HAX.out hgB (show g < wb.drew.heap.size from hgb) HSA.out)
      have HAPY := Lib.hid (apart_start HAY.out hgB (Nat.lt_of_lt_of_le (show g < wb.drew.heap.size from hgb) HW1.out.size) HSB.out)
      have HLF2 := Lib.hid ((HLD.out.move HW1.out).move HW2.out)
      have hxl : x.inside.length ≤ 1000000 := HAX.out.len
      have HEQ : Hid (Calls Tryd.prog 30 #[.slice ia x.inside.length ic, .slice ib y.inside.length ic2, .func (.func 29) #[] #[]] W2 fun e w' => e = .returned (.bool (alikeL (x.inside.map M.plain) (y.inside.map M.plain))) ∧ Fresh W2 w') :=
        allAlike_any x.inside y.inside ia ib ic ic2 W2 HRA2.out HRB.out hxl (fun z hz => (HAX.out.inside z hz).move HF2.out) (fun z hz => (HAY.out.inside z hz).move HF2.out)
      have HST : Hid (∀ j, szs2 (pst2 (st0 ++ pushM2 (x.inside.take j) (y.inside.take j))) < gk) := fun j => by
        have h1 := szs2_pushed ((x.inside.take j).map M.plain) ((y.inside.take j).map M.plain)
        have h2 := HSZ.out
        have h5 := size_inside x.plain
        have h6 : sizeL ((x.inside.take j).map M.plain) ≤ sizeL (x.inside.map M.plain) := by
          rw [List.map_take]; exact sizeL_take _ _
        rw [pst2_append, szs2_append] at h2 ⊢
        rw [pst2_pushM2]
        simp only [pst2, List.map_cons, List.map_nil, szs2] at h2 ⊢
        rw [plain_inside] at h5
        omega
      have HLN : Hid (alikeL (x.inside.map M.plain) (y.inside.map M.plain) = true → x.inside.length = y.inside.length) := fun h => by
        have := alikeL_length h
        simpa using this
      clear HRA HSA HSB HLD HAX HAY HSZ
      generalize x.inside = ins at *
      generalize y.inside = ims at *
      cases hb : alikeL (ins.map M.plain) (ims.map M.plain) with
      | false =>
        have HX := Lib.hid (HTP.out hb)
        rw [hb] at HEQ
        clear hb HTS
        go_wp2_with fail
        refine HEQ.out.mono ?_
        rintro e W3 ⟨rfl, hf3⟩
        go_wp2
        go_ret
        exact ⟨ret_bool HX.out.symm, HF2.out.trans hf3⟩
      | true =>
        have HX := Lib.hid (HTS.out hb)
        have HLEN := Lib.hid (HLN.out hb)
        rw [hb] at HEQ
        clear hb HTP HTS
        go_wp2_with fail
        (with_reducible refine HEQ.out.mono ?_)
        rintro e W3 ⟨rfl, hf3⟩
        have HL3 := Lib.hid (HLF2.out.move hf3)
        have HRA3 := Lib.hid (HRA2.out.move hf3)
        have HRB3 := Lib.hid (HRB.out.move hf3)
        clear hf3 HRA2 HRB HLF2 HEQ HF2 HW2 HF1 HW1 HFD
        go_wp2
        go_loopw [5, 44] (fun a5 a44 wq => ∃ (j c' q : Nat) (a' : Option Addr), j ≤ ins.length ∧ a5 = .slice a' q c' ∧ a44 = .int .i64 j ∧ Hid (q = (st0 ++ pushM2 (ins.take j) (ims.take j)).length) ∧ Hid (Left2 w wq a' c' (st0 ++ pushM2 (ins.take j) (ims.take j))) ∧ Hid (RowAt wq ia (mcells ins)) ∧ Hid (RowAt wq ib (mcells ims)) ∧ Hid (Apart a' ia ins) ∧ Hid (Apart a' ib ims)) (fun _ a44 _ => ins.length - (intOf a44).toNat)
        case atStart => exact ⟨0, c, p, some ⟨g, 0, none⟩, Nat.zero_le _, rfl, rfl, by simp [Hid, pushM2]; exact HP.out.symm, by have := HL3.out; simpa [Hid, pushM2] using this, HRA3.out, HRB3.out, HAPX.out, HAPY.out⟩
        case round =>
          obtain ⟨j, c', q, a', hj, rfl, rfl, HN, HL5, HRA5, HRB5, HAX5, HAY5⟩ := hrel
          clear HL3 HRA3 HRB3 HAPX HAPY
          by_cases hlt : j < ins.length
          · have hltm : j < ims.length := by rw [← HLEN.out]; exact hlt
            obtain ⟨gi, ei⟩ := row_some HRA5.out j hlt
            obtain ⟨gj, ej⟩ := row_some HRB5.out j hltm
            subst ei ej
            have HYL : Hid (∀ W, RowAt W (some ⟨gi, 0, none⟩) (mcells ins) → ins[j].lies W gi (j * 6)) := fun W h => mrow_get h j hlt
            have HZL : Hid (∀ W, RowAt W (some ⟨gj, 0, none⟩) (mcells ims) → ims[j].lies W gj (j * 6)) := fun W h => mrow_get h j hltm
            have HPT := Lib.hid (pushM2_take ins ims j hlt hltm)
            have HQ2 : Hid (∀ W, Calls Tryd.prog 27 #[ins[j].val] W fun e w' => e = .returned (.bool ins[j].plain.holds) ∧ Fresh W w') := fun W => holds_any _ W
            have HNE : Hid (ins ≠ []) := List.ne_nil_of_length_pos (by omega)
            have HNE2 : Hid (ims ≠ []) := List.ne_nil_of_length_pos (by omega)
            have i1 : (0 : Int) ≤ (j : Int) := by omega
            have i2 : (j : Int) < (ins.length : Int) := by omega
            have i3 : (j : Int) < (ims.length : Int) := by omega
            generalize ins[j] = y at *
            generalize ims[j] = z at *
            have HU := Lib.hid (dcells_one (y, z))
            generalize y.plain.holds = b at *
            obtain ⟨yk, yf, yn, ys, yla, ylc, yl, yka, ykc, yks⟩ := y
            obtain ⟨zk, zf, zn, zs, zla, zlc, zl, zka, zkc, zks⟩ := z
            dsimp only [M.val] at HQ2
            obtain ⟨d0, d1, d2, d3, d4, d5⟩ := HYL.out wr HRA5.out
            have HWC : Hid (dcellsOf (M.mk yk yf yn ys yla ylc yl yka ykc yks, M.mk zk zf zn zs zla zlc zl zka zkc zks) = [.int .i64 yk, .bool yf, .int .i64 yn, .string ys, .slice yla yl.length ylc, .slice yka yks.length ykc, .int .i64 zk, .bool zf, .int .i64 zn, .string zs, .slice zla zl.length zlc, .slice zka zks.length zkc]) := by
              simp [Hid, dcellsOf, M.cells]
            cases b with
            | false =>
              clear HYL HZL HWC HU
              generalize yl.length = yln at *
              generalize yks.length = ykn at *
              go_wp2_with fail
              refine (HQ2.out _).mono ?_
              rintro e w4 ⟨rfl, hf4⟩
              have HF4 := Lib.hid hf4
              clear hf4 d0 d1 d2 d3 d4 d5
              go_wp2
              go_roundw
              case rel => exact ⟨j + 1, c', q, a', by omega, rfl, by go_num, by rw [Hid, HPT.out]; simpa using HN.out, by rw [Hid, HPT.out]; have := HL5.out.move HF4.out; simpa using this, HRA5.out.move HF4.out, HRB5.out.move HF4.out, HAX5.out, HAY5.out⟩
              case measure => simp [intOf]; omega
            | true =>
              have hq6 : q + 1 ≤ 2000000 := by
                have h1 := szs2_length (pst2 (st0 ++ pushM2 (ins.take j) (ims.take j)))
                have h2 := HST.out j
                have h3 := HG2.out
                have h4 : q = _ := HN.out
                rw [show (pst2 (st0 ++ pushM2 (ins.take j) (ims.take j))).length = (st0 ++ pushM2 (ins.take j) (ims.take j)).length by simp [pst2]] at h1
                omega
              have hm1 : q + 1 ≤ maxLen := by unfold maxLen; omega
              have hm2 : (q + 1) * 176 ≤ 140737488355328 := by omega
              generalize hY : M.mk yk yf yn ys yla ylc yl yka ykc yks = y at *
              generalize hZ : M.mk zk zf zn zs zla zlc zl zka zkc zks = z at *
              have HYL2 : Hid (∀ W, RowAt W (some ⟨gi, 0, none⟩) (mcells ins) → (M.mk yk yf yn ys yla ylc yl yka ykc yks).lies W gi (j * 6)) := by rw [hY]; exact HYL
              have HZL2 : Hid (∀ W, RowAt W (some ⟨gj, 0, none⟩) (mcells ims) → (M.mk zk zf zn zs zla zlc zl zka zkc zks).lies W gj (j * 6)) := by rw [hZ]; exact HZL
              dsimp only [M.lies] at HYL2 HZL2
              clear hY hZ HYL HZL
              have HAF : Hid (∀ {W w5 : World} {g' cap' : Nat} (o : Obj), Fresh wr W → w5.ownsRow w.heap.size 68 12 (.slice (some ⟨g', 0, none⟩) (q + 1) cap') (q + 1) (dcells (st0 ++ pushM2 (ins.take j) (ims.take j)) ++ dcellsOf (y, z)) → (W.alloc o).grownBy w5 (Value.slice a' q c').ownBlock → ((Value.slice a' q c').ownBlock = some g' ∨ g' = W.heap.size + 1) → _) :=
                fun o hf h1 h2 h3 => after_push2 (p := (y, z)) o HN.out (HL5.out.move hf) (HRA5.out.move hf) (HRB5.out.move hf) HNE.out HNE2.out HAX5.out HAY5.out h1 h2 h3
              have HOW : Hid (∀ W, Fresh wr W → W.ownsRow w.heap.size 68 12 (.slice a' q c') q (dcells (st0 ++ pushM2 (ins.take j) (ims.take j)))) := fun W hf => by
                have h1 := (HL5.out.move hf).own
                rw [← (show q = _ from HN.out)] at h1
                exact h1
              have HLO : Hid (∀ W, Fresh wr W → w.heap.size ≤ W.heap.size) := fun W hf => (HL5.out.move hf).fresh.size
              have HNX : Hid (q + 1 = (st0 ++ pushM2 (ins.take j) (ims.take j) ++ [(y, z)]).length) := by
                have h4 : q = _ := HN.out
                rw [Hid, List.length_append, ← h4]; rfl
              have HEQ2 : Hid (st0 ++ pushM2 (ins.take (j + 1)) (ims.take (j + 1)) = st0 ++ pushM2 (ins.take j) (ims.take j) ++ [(y, z)]) := by
                rw [Hid, HPT.out, if_pos rfl, ← List.append_assoc]
              rw [HWC.out] at HAF HU
              generalize st0 ++ pushM2 (ins.take j) (ims.take j) = ST at *
              generalize yl.length = yln at *
              generalize yks.length = ykn at *
              generalize zl.length = zln at *
              generalize zks.length = zkn at *
              go_wp2_with fail
              refine (HQ2.out _).mono ?_
              rintro e w4 ⟨rfl, hf4⟩
              have HF4 := Lib.hid hf4
              clear d0 d1 d2 d3 d4 d5
              obtain ⟨d0, d1, d2, d3, d4, d5⟩ := HYL2.out w4 (HRA5.out.move hf4)
              obtain ⟨e0, e1, e2, e3, e4, e5⟩ := HZL2.out w4 (HRB5.out.move hf4)
              have hgi : gi < w4.heap.size := World.block_lt_of_cell? w4 _ d0
              have hgj : gj < w4.heap.size := World.block_lt_of_cell? w4 _ e0
              have hRd0 := Ready.mk' (B := w.heap.size) (k := 12) #[.int .i64 yk, .bool yf, .int .i64 yn, .string ys, .slice yla yln ylc, .slice yka ykn ykc, .int .i64 zk, .bool zf, .int .i64 zn, .string zs, .slice zla zln zlc, .slice zka zkn zkc] 68 (HOW.out w4 hf4) (HLO.out w4 hf4)
              have hRd : Hid (Ready w.heap.size 68 12 (w4.alloc (.cells #[.int .i64 yk, .bool yf, .int .i64 yn, .string ys, .slice yla yln ylc, .slice yka ykn ykc, .int .i64 zk, .bool zf, .int .i64 zn, .string zs, .slice zla zln zlc, .slice zka zkn zkc] 68)).drew (.slice a' q c') q (dcells ST) w4.heap.size [.int .i64 yk, .bool yf, .int .i64 yn, .string ys, .slice yla yln ylc, .slice yka ykn ykc, .int .i64 zk, .bool zf, .int .i64 zn, .string zs, .slice zla zln zlc, .slice zka zkn zkc]) := ⟨hRd0.own, hRd0.box, hRd0.low⟩
              have HAF2 : Hid (∀ {w5 : World} {g' cap' : Nat}, w5.ownsRow w.heap.size 68 12 (.slice (some ⟨g', 0, none⟩) (q + 1) cap') (q + 1) (dcells ST ++ [.int .i64 yk, .bool yf, .int .i64 yn, .string ys, .slice yla yln ylc, .slice yka ykn ykc, .int .i64 zk, .bool zf, .int .i64 zn, .string zs, .slice zla zln zlc, .slice zka zkn zkc]) → (w4.alloc (.cells #[.int .i64 yk, .bool yf, .int .i64 yn, .string ys, .slice yla yln ylc, .slice yka ykn ykc, .int .i64 zk, .bool zf, .int .i64 zn, .string zs, .slice zla zln zlc, .slice zka zkn zkc] 68)).drew.grownBy w5 (Value.slice a' q c').ownBlock → ((Value.slice a' q c').ownBlock = some g' ∨ g' = w4.heap.size + 1) → _) :=
                fun h1 h2 h3 => HAF.out (.cells #[.int .i64 yk, .bool yf, .int .i64 yn, .string ys, .slice yla yln ylc, .slice yka ykn ykc, .int .i64 zk, .bool zf, .int .i64 zn, .string zs, .slice zla zln zlc, .slice zka zkn zkc] 68) hf4 h1 ⟨h2.os, h2.tape, h2.output, h2.size, h2.block⟩ h3
              clear hf4 hRd0 HOW HLO HAF
              go_wp2_with fail
              go_region_held_law (fun w' => (w'.cell? ⟨gi, j * 6, none⟩ = some (.int .i64 yk) ∧ w'.cell? ⟨gi, j * 6 + 1, none⟩ = some (.bool yf) ∧ w'.cell? ⟨gi, j * 6 + 2, none⟩ = some (.int .i64 yn) ∧ w'.cell? ⟨gi, j * 6 + 3, none⟩ = some (.string ys) ∧ w'.cell? ⟨gi, j * 6 + 4, none⟩ = some (.slice yla yln ylc) ∧ w'.cell? ⟨gi, j * 6 + 5, none⟩ = some (.slice yka ykn ykc) ∧ w'.cell? ⟨gj, j * 6, none⟩ = some (.int .i64 zk) ∧ w'.cell? ⟨gj, j * 6 + 1, none⟩ = some (.bool zf) ∧ w'.cell? ⟨gj, j * 6 + 2, none⟩ = some (.int .i64 zn) ∧ w'.cell? ⟨gj, j * 6 + 3, none⟩ = some (.string zs) ∧ w'.cell? ⟨gj, j * 6 + 4, none⟩ = some (.slice zla zln zlc) ∧ w'.cell? ⟨gj, j * 6 + 5, none⟩ = some (.slice zka zkn zkc))) (go_keep)
                ((refine step_append_lies _ (by rfl) (.tmp 52) (.tmp 62) 69 (by rfl) w.heap.size 68 i0 _ 12 176 Tryd.underlying69 hi hz0 hz1 hz2 (by rfl) (by decide) (.slice a' q c') q (dcells ST) (by rfl) hRd.out.own ⟨w4.heap.size, 0, none⟩ 1 1 [.int .i64 yk, .bool yf, .int .i64 yn, .string ys, .slice yla yln ylc, .slice yka ykn ykc, .int .i64 zk, .bool zf, .int .i64 zn, .string zs, .slice zla zln zlc, .slice zka zkn zkc] (by rfl) (by rfl) hRd.out.box HU.out (by decide) hm1 hm2 hRd.out.low (w4.heap.size + 1) (by simp) ?_; intro g' cap' w5 hown5 hgrow5 hat5 hlt5; have HE := Lib.hid (HAF2.out hown5 hgrow5 hat5); clear hown5 hgrow5 hat5 hlt5; obtain ⟨u0, u1, u2, u3, u4, u5⟩ := HYL2.out w5 HE.out.2.1; obtain ⟨v0, v1, v2, v3, v4, v5⟩ := HZL2.out w5 HE.out.2.2.1))
              clear d0 d1 d2 d3 d4 d5 e0 e1 e2 e3 e4 e5
              clear u0 u1 u2 u3 u4 u5 v0 v1 v2 v3 v4 v5
              go_wp2
              go_roundw
              case rel => exact ⟨j + 1, cap', q + 1, some ⟨g', 0, none⟩, by omega, rfl, by go_num, by rw [Hid, HEQ2.out]; exact HNX.out, by rw [Hid, HEQ2.out]; exact HE.out.1, HE.out.2.1, HE.out.2.2.1, HE.out.2.2.2.1, HE.out.2.2.2.2⟩
              case measure => simp [intOf]; omega
          · obtain rfl : j = ins.length := by omega
            have HS := Lib.hid (HST.out ins.length)
            have ht : ims.take ins.length = ims := by rw [HLEN.out, List.take_length]
            rw [List.take_length, ht] at HN HL5 HS
            clear ht
            go_wp2
            go_roundg (szs2 (pst2 (st0 ++ pushM2 ins ims)))
            case measure => exact HS.out
            case rel => exact ⟨c', q, a', st0 ++ pushM2 ins ims, rfl, HN, Nat.le_refl _, Nat.le_trans (Nat.le_of_lt HS.out) HG2.out, HL5, HX⟩
theorem same_any (m m' : M) (w : World) (hm : m.At w) (hm' : m'.At w) (hs : m.plain.size ≤ 1000000) : Calls Tryd.prog 13 #[m.val, m'.val] w fun e w' => e = .returned (.bool (m.plain.same m'.plain)) ∧ Fresh w w' := by
  rw [same_eq]
  cases ha : m.plain.alike m'.plain with
  | false => exact same_no m m' w hm hm' ha
  | true => exact same_yes m m' w hm hm' hs ha
end Go.Proofs.YtonakfkiidhebaaDoor
