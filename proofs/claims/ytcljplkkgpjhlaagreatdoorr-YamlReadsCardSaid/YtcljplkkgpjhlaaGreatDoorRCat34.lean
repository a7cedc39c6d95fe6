/-
  Parts of the proof: VSame2 Walk YAwake VRwrong.
-/
import Derived.Test.YtcljplkkgpjhlaaGreatDoorRCat33
import Derived.Test.YtcljplkkgpjhlaaGreatDoorRCat32
import Derived.Test.YtcljplkkgpjhlaaGreatDoorRCat24
import Derived.Test.YtcljplkkgpjhlaaGreatDoorRCat18
import Derived.Test.YtcljplkkgpjhlaaGreatDoorRCat05
import Derived.Test.YtcljplkkgpjhlaaGreatDoorRCat25
set_option maxRecDepth 100000
set_option maxHeartbeats 8000000
namespace Go.Proofs.YtcljplkkgpjhlaaGreatDoorR
namespace v
open Go.ChangeShapes Go.WideShapes Go.ChangeAt Go.RowKit
attribute [local go_sem ↓] Go.wp_at_zero Go.wp_at_succ
variable {w : World}
theorem same_yes (m m' : M) (w : World) (hm : m.At w) (hm' : m'.At w) (hs : m.plain.size ≤ 1000000) (ha : m.plain.alike m'.plain = true) : Calls Tryz.prog 15 #[m.val, m'.val] w fun e w' => e = .returned (.bool (sin m.plain m'.plain)) ∧ Fresh w w' := by
  obtain ⟨i0, hi, hz0, hz1, hz2⟩ := info_parts info68
  have HQ : Hid (∀ W, Fresh w W → Calls Tryz.prog 38 #[m.val, m'.val] W fun e w' => e = .returned (.bool true) ∧ Fresh W w') := fun W hf => by rw [← ha]; exact alike_any m m' W (hm.move hf) (hm'.move hf)
  have HR : Hid (Todo2 w (sin m.plain m'.plain) [(m, m')]) := ⟨fun p hp => by rw [List.mem_singleton] at hp; subst hp; exact ⟨hm, hm'⟩, by simp [pst2, allS]⟩
  have HZ : Hid (szs2 (pst2 [(m, m')]) ≤ 1000000) := by simp [Hid, pst2, szs2]; exact hs
  have HL := Lib.hid (left2_start m m' w)
  generalize sin m.plain m'.plain = R at *
  clear hm hm' ha hs
  obtain ⟨k, f, n, s, la, lc, l, ka, kc, ks⟩ := m
  obtain ⟨k', f', n', s', la', lc', l', ka', kc', ks'⟩ := m'
  dsimp only [M.val, M.cells] at *
  generalize hM : M.mk k f n s la lc l ka kc ks = m at *
  generalize hM' : M.mk k' f' n' s' la' lc' l' ka' kc' ks' = m' at *
  clear hM hM'
  generalize l.length = ln at *
  generalize ks.length = kn at *
  generalize l'.length = ln' at *
  generalize ks'.length = kn' at *
  go_enter Tryz.func15, Tryz.ntmps15
  go_wp2_with fail
  refine (HQ.out _ (((Fresh.refl w).alloc _).alloc _)).mono ?_
  rintro e w1 ⟨rfl, hf⟩
  obtain ⟨b0, b1, b2, b3, b4, b5⟩ := box6 (hf.at (at_alloc (at_new w _)))
  obtain ⟨c0, c1, c2, c3, c4, c5⟩ := box6 (b := w.heap.size + 1) (hf.at (by have := at_new (w.alloc (.cells #[.int .i64 k, .bool f, .int .i64 n, .string s, .slice la ln lc, .slice ka kn kc] 27)) (.cells #[.int .i64 k', .bool f', .int .i64 n', .string s', .slice la' ln' lc', .slice ka' kn' kc'] 27); rw [World.size_alloc] at this; exact this))
  have HF := Lib.hid ((((Fresh.refl w).alloc _).alloc _).trans hf)
  have hz : w.heap.size < w1.heap.size := World.block_lt_of_cell? w1 _ b0
  clear hf
  go_wp2
  have HL1 : Hid (Left2 w _ _ _ _) := HL.out _ w1.heap.size (at_new w1 _) (Nat.le_of_lt hz) (HF.out.alloc _)
  clear HL b0 b1 b2 b3 b4 b5 c0 c1 c2 c3 c4 c5
  go_loopg [5] (szs2 (pst2 [(m, m')])) (fun gg a5 wr => ∃ (c q : Nat) (a : Option Addr) (st : List (M × M)), a5 = .slice a q c ∧ Hid (q = st.length) ∧ Hid (szs2 (pst2 st) ≤ gg) ∧ Hid (gg ≤ 1000000) ∧ Hid (Left2 w wr a c st) ∧ Hid (Todo2 w R st))
  case atStart => exact ⟨1, 1, _, [(m, m')], rfl, rfl, Nat.le_refl _, HZ, HL1, HR⟩
  case round =>
    obtain ⟨c, q, a, st, rfl, HN, HG, HG2, HLe, HT⟩ := hrel
    obtain ⟨wo, rfl⟩ : ∃ wo : World, wo = wr := ⟨_, rfl⟩
    clear HL1 HR HZ
    rcases List.eq_nil_or_concat st with rfl | ⟨st0, ⟨x, y⟩, e⟩
    · have hd := HT.out.res
      simp only [pst2, List.map_nil, allS, List.all_nil] at hd
      have HD := Lib.hid hd
      obtain rfl : q = 0 := HN.out
      clear hd
      go_wp2
      go_ret
      exact ⟨ret_bool (by rw [← HD.out]), HLe.out.fresh⟩
    · rw [List.concat_eq_append] at e
      subst e
      obtain ⟨g, ea, hgB, hpc, hlx, hly, hleft⟩ := HLe.out.last
      obtain rfl : q = st0.length + 1 := by rw [HN.out]; simp
      subst ea
      have hxy := HT.out.all (x, y) (by simp)
      have HTS := Lib.hid HT.out.step
      have HTP := Lib.hid HT.out.parted
      have hfr := hleft.fresh
      have HIX : Hid (∀ W, Fresh w W → Calls Tryz.prog 39 #[x.val] W (InsideIs x W)) := fun W hf => inside_any x W (hxy.1.move hf)
      have HIY : Hid (∀ W, Fresh w W → Calls Tryz.prog 39 #[y.val] W (InsideIs y W)) := fun W hf => inside_any y W (hxy.2.move hf)
      have HAX : Hid (x.At w) := hxy.1
      have HAY : Hid (y.At w) := hxy.2
      have HLF := Lib.hid hleft
      have HSZ : Hid (szs2 (pst2 (st0 ++ [(x, y)])) ≤ gk) := HG.out
      have hpb : st0.length + 1 ≤ 1000000 := by have h1 := szs2_length (pst2 (st0 ++ [(x, y)])); have h2 := HSZ.out; have h3 := HG2.out; simp [pst2] at h1 h2; omega
      have HFR := Lib.hid hfr
      obtain ⟨xk, xf, xn, xs, xla, xlc, xl, xka, xkc, xks⟩ := x
      obtain ⟨yk, yf, yn, ys, yla, ylc, yl, yka, ykc, yks⟩ := y
      obtain ⟨c0, c1, c2, c3, c4, c5⟩ := hlx
      obtain ⟨d0, d1, d2, d3, d4, d5⟩ := hly
      have hgl : g < wo.heap.size := World.block_lt_of_cell? wo _ c0
      clear HLe HT hleft hxy hfr HG HN
      generalize hp : st0.length = p at *
      have HP := Lib.hid hp
      clear hp
      dsimp only [M.val] at HIX HIY
      generalize hX : M.mk xk xf xn xs xla xlc xl xka xkc xks = x at *
      generalize hY : M.mk yk yf yn ys yla ylc yl yka ykc yks = y at *
      clear hX hY
      generalize xl.length = xln at *
      generalize xks.length = xkn at *
      generalize yl.length = yln at *
      generalize yks.length = ykn at *
      go_wp2_with fail
      obtain ⟨⟨k0, k1, k2, k3, k4, k5⟩, ⟨l0, l1, l2, l3, l4, l5⟩⟩ := box12 (at_new wo (.cells #[.int .i64 xk, .bool xf, .int .i64 xn, .string xs, .slice xla xln xlc, .slice xka xkn xkc, .int .i64 yk, .bool yf, .int .i64 yn, .string ys, .slice yla yln ylc, .slice yka ykn ykc] 74))
      have HF0 := Lib.hid (HFR.out.alloc (.cells #[.int .i64 xk, .bool xf, .int .i64 xn, .string xs, .slice xla xln xlc, .slice xka xkn xkc, .int .i64 yk, .bool yf, .int .i64 yn, .string ys, .slice yla yln ylc, .slice yka ykn ykc] 74))
      have HL0 := Lib.hid (HLF.out.move ((Fresh.refl wo).alloc (.cells #[.int .i64 xk, .bool xf, .int .i64 xn, .string xs, .slice xla xln xlc, .slice xka xkn xkc, .int .i64 yk, .bool yf, .int .i64 yn, .string ys, .slice yla yln ylc, .slice yka ykn ykc] 74)))
      have hgb : g < (wo.alloc (.cells #[.int .i64 xk, .bool xf, .int .i64 xn, .string xs, .slice xla xln xlc, .slice xka xkn xkc, .int .i64 yk, .bool yf, .int .i64 yn, .string ys, .slice yla yln ylc, .slice yka ykn ykc] 74)).heap.size := by rw [World.size_alloc]; omega
      generalize wo.alloc (.cells #[.int .i64 xk, .bool xf, .int .i64 xn, .string xs, .slice xla xln xlc, .slice xka xkn xkc, .int .i64 yk, .bool yf, .int .i64 yn, .string ys, .slice yla yln ylc, .slice yka ykn ykc] 74) = wb at *
      clear c0 c1 c2 c3 c4 c5 d0 d1 d2 d3 d4 d5 HLF HFR
      generalize wo.heap.size = bx at *
      have HFD := Lib.hid HF0.out.drew
      have HLD : Hid (Left2 w wb.drew (some ⟨g, 0, none⟩) c st0) := HL0.out.move ((Fresh.refl wb).drew)
      have HB : Hid (∀ w', Fresh wb.drew w' → (w'.cell? ⟨bx, 0, none⟩ = some (.int .i64 xk) ∧ w'.cell? ⟨bx, 1, none⟩ = some (.bool xf) ∧ w'.cell? ⟨bx, 2, none⟩ = some (.int .i64 xn) ∧ w'.cell? ⟨bx, 3, none⟩ = some (.string xs) ∧ w'.cell? ⟨bx, 4, none⟩ = some (.slice xla xln xlc) ∧ w'.cell? ⟨bx, 5, none⟩ = some (.slice xka xkn xkc) ∧ w'.cell? ⟨bx, 6, none⟩ = some (.int .i64 yk) ∧ w'.cell? ⟨bx, 7, none⟩ = some (.bool yf) ∧ w'.cell? ⟨bx, 8, none⟩ = some (.int .i64 yn) ∧ w'.cell? ⟨bx, 9, none⟩ = some (.string ys) ∧ w'.cell? ⟨bx, 10, none⟩ = some (.slice yla yln ylc) ∧ w'.cell? ⟨bx, 11, none⟩ = some (.slice yka ykn ykc))) := fun w' hf => ⟨hf.cell (a := wb.drew) k0, hf.cell (a := wb.drew) k1, hf.cell (a := wb.drew) k2, hf.cell (a := wb.drew) k3, hf.cell (a := wb.drew) k4, hf.cell (a := wb.drew) k5, hf.cell (a := wb.drew) l0, hf.cell (a := wb.drew) l1, hf.cell (a := wb.drew) l2, hf.cell (a := wb.drew) l3, hf.cell (a := wb.drew) l4, hf.cell (a := wb.drew) l5⟩
      clear HF0 HL0
      go_region_held3 (fun w' => (w'.cell? ⟨bx, 0, none⟩ = some (.int .i64 xk) ∧ w'.cell? ⟨bx, 1, none⟩ = some (.bool xf) ∧ w'.cell? ⟨bx, 2, none⟩ = some (.int .i64 xn) ∧ w'.cell? ⟨bx, 3, none⟩ = some (.string xs) ∧ w'.cell? ⟨bx, 4, none⟩ = some (.slice xla xln xlc) ∧ w'.cell? ⟨bx, 5, none⟩ = some (.slice xka xkn xkc) ∧ w'.cell? ⟨bx, 6, none⟩ = some (.int .i64 yk) ∧ w'.cell? ⟨bx, 7, none⟩ = some (.bool yf) ∧ w'.cell? ⟨bx, 8, none⟩ = some (.int .i64 yn) ∧ w'.cell? ⟨bx, 9, none⟩ = some (.string ys) ∧ w'.cell? ⟨bx, 10, none⟩ = some (.slice yla yln ylc) ∧ w'.cell? ⟨bx, 11, none⟩ = some (.slice yka ykn ykc))) (go_keep)
        (first
          | (go_at_call 39; (with_reducible refine (HIX.out _ HFD.out).mono ?_); rintro e W1 ⟨ia, ic, rfl, hra, hf1, hsa⟩; obtain ⟨q0, q1, q2, q3, q4, q5, r0, r1, r2, r3, r4, r5⟩ := HB.out _ hf1; have HF1 := Lib.hid (HFD.out.trans hf1); have HW1 := Lib.hid hf1; have HRA := Lib.hid hra; have HSA := Lib.hid hsa; clear hra hf1 hsa)
          | (go_at_call 39; (with_reducible refine (HIY.out _ HF1.out).mono ?_); rintro e W2 ⟨ib, ic2, rfl, hrb, hf2, hsb⟩; obtain ⟨s0, s1, s2, s3, s4, s5, t0, t1, t2, t3, t4, t5⟩ := HB.out _ (HW1.out.trans hf2); have HF2 := Lib.hid (HF1.out.trans hf2); have HW2 := Lib.hid hf2; have HRB := Lib.hid hrb; have HSB := Lib.hid hsb; clear hrb hf2 hsb))
      clear k0 k1 k2 k3 k4 k5 l0 l1 l2 l3 l4 l5 q0 q1 q2 q3 q4 q5 r0 r1 r2 r3 r4 r5 s0 s1 s2 s3 s4 s5 t0 t1 t2 t3 t4 t5 HB HIX HIY
      have HRA2 := Lib.hid (HRA.out.move HW2.out)
      have HAPX := Lib.hid (apart_start HAX.out hgB (show g < wb.drew.heap.size from hgb) HSA.out)
      have HAPY := Lib.hid (apart_start HAY.out hgB (Nat.lt_of_lt_of_le (show g < wb.drew.heap.size from hgb) HW1.out.size) HSB.out)
      have HLF2 := Lib.hid ((HLD.out.move HW1.out).move HW2.out)
      have hxl : x.inside.length ≤ 1000000 := HAX.out.len
      have HEQ : Hid (Calls Tryz.prog 40 #[.slice ia x.inside.length ic, .slice ib y.inside.length ic2, .func (.func 38) #[] #[]] W2 fun e w' => e = .returned (.bool (alikeL (x.inside.map M.plain) (y.inside.map M.plain))) ∧ Fresh W2 w') :=
        allAlike_any x.inside y.inside ia ib ic ic2 W2 HRA2.out HRB.out hxl (fun z hz => (HAX.out.inside z hz).move HF2.out) (fun z hz => (HAY.out.inside z hz).move HF2.out)
      have HST : Hid (∀ j, szs2 (pst2 (st0 ++ pushM2 (x.inside.take j) (y.inside.take j))) < gk) := fun j => by
        have h1 := szs2_pushed ((x.inside.take j).map M.plain) ((y.inside.take j).map M.plain)
        have h2 := HSZ.out
        have h5 := size_inside x.plain
        have h6 : sizeL ((x.inside.take j).map M.plain) ≤ sizeL (x.inside.map M.plain) := by
          rw [List.map_take]; exact sizeL_take _ _
        rw [pst2_append, szs2_append] at h2 ⊢
        rw [pst2_pushM2]
        simp only [pst2, List.map_cons, List.map_nil, szs2] at h2 ⊢
        rw [plain_inside] at h5
        omega
      have HLN : Hid (alikeL (x.inside.map M.plain) (y.inside.map M.plain) = true → x.inside.length = y.inside.length) := fun h => by
        have := alikeL_length h
        simpa using this
      clear HRA HSA HSB HLD HAX HAY HSZ
      generalize x.inside = ins at *
      generalize y.inside = ims at *
      cases hb : alikeL (ins.map M.plain) (ims.map M.plain) with
      | false =>
        have HX := Lib.hid (HTP.out hb)
        rw [hb] at HEQ
        clear hb HTS
        go_wp2_with fail
        refine HEQ.out.mono ?_
        rintro e W3 ⟨rfl, hf3⟩
        go_wp2
        go_ret
        exact ⟨ret_bool HX.out.symm, HF2.out.trans hf3⟩
      | true =>
        have HX := Lib.hid (HTS.out hb)
        have HLEN := Lib.hid (HLN.out hb)
        rw [hb] at HEQ
        clear hb HTP HTS
        go_wp2_with fail
        (with_reducible refine HEQ.out.mono ?_)
        rintro e W3 ⟨rfl, hf3⟩
        have HL3 := Lib.hid (HLF2.out.move hf3)
        have HRA3 := Lib.hid (HRA2.out.move hf3)
        have HRB3 := Lib.hid (HRB.out.move hf3)
        clear hf3 HRA2 HRB HLF2 HEQ HF2 HW2 HF1 HW1 HFD
        go_wp2
        go_loopw [5, 44] (fun a5 a44 wq => ∃ (j c' q : Nat) (a' : Option Addr), j ≤ ins.length ∧ a5 = .slice a' q c' ∧ a44 = .int .i64 j ∧ Hid (q = (st0 ++ pushM2 (ins.take j) (ims.take j)).length) ∧ Hid (Left2 w wq a' c' (st0 ++ pushM2 (ins.take j) (ims.take j))) ∧ Hid (RowAt wq ia (mcells ins)) ∧ Hid (RowAt wq ib (mcells ims)) ∧ Hid (Apart a' ia ins) ∧ Hid (Apart a' ib ims)) (fun _ a44 _ => ins.length - (intOf a44).toNat)
        case atStart => exact ⟨0, c, p, some ⟨g, 0, none⟩, Nat.zero_le _, rfl, rfl, by simp [Hid, pushM2]; exact HP.out.symm, by have := HL3.out; simpa [Hid, pushM2] using this, HRA3.out, HRB3.out, HAPX.out, HAPY.out⟩
        case round =>
          obtain ⟨j, c', q, a', hj, rfl, rfl, HN, HL5, HRA5, HRB5, HAX5, HAY5⟩ := hrel
          clear HL3 HRA3 HRB3 HAPX HAPY
          by_cases hlt : j < ins.length
          · have hltm : j < ims.length := by rw [← HLEN.out]; exact hlt
            obtain ⟨gi, ei⟩ := row_some HRA5.out j hlt
            obtain ⟨gj, ej⟩ := row_some HRB5.out j hltm
            subst ei ej
            have HYL : Hid (∀ W, RowAt W (some ⟨gi, 0, none⟩) (mcells ins) → ins[j].lies W gi (j * 6)) := fun W h => mrow_get h j hlt
            have HZL : Hid (∀ W, RowAt W (some ⟨gj, 0, none⟩) (mcells ims) → ims[j].lies W gj (j * 6)) := fun W h => mrow_get h j hltm
            have HPT := Lib.hid (pushM2_take ins ims j hlt hltm)
            have HQ2 : Hid (∀ W, Calls Tryz.prog 41 #[ins[j].val] W fun e w' => e = .returned (.bool ins[j].plain.holds) ∧ Fresh W w') := fun W => holds_any _ W
            have HNE : Hid (ins ≠ []) := List.ne_nil_of_length_pos (by omega)
            have HNE2 : Hid (ims ≠ []) := List.ne_nil_of_length_pos (by omega)
            have i1 : (0 : Int) ≤ (j : Int) := by omega
            have i2 : (j : Int) < (ins.length : Int) := by omega
            have i3 : (j : Int) < (ims.length : Int) := by omega
            generalize ins[j] = y at *
            generalize ims[j] = z at *
            have HU := Lib.hid (dcells_one (y, z))
            generalize y.plain.holds = b at *
            obtain ⟨yk, yf, yn, ys, yla, ylc, yl, yka, ykc, yks⟩ := y
            obtain ⟨zk, zf, zn, zs, zla, zlc, zl, zka, zkc, zks⟩ := z
            dsimp only [M.val] at HQ2
            obtain ⟨d0, d1, d2, d3, d4, d5⟩ := HYL.out wr HRA5.out
            have HWC : Hid (dcellsOf (M.mk yk yf yn ys yla ylc yl yka ykc yks, M.mk zk zf zn zs zla zlc zl zka zkc zks) = [.int .i64 yk, .bool yf, .int .i64 yn, .string ys, .slice yla yl.length ylc, .slice yka yks.length ykc, .int .i64 zk, .bool zf, .int .i64 zn, .string zs, .slice zla zl.length zlc, .slice zka zks.length zkc]) := by
              simp [Hid, dcellsOf, M.cells]
            cases b with
            | false =>
              clear HYL HZL HWC HU
              generalize yl.length = yln at *
              generalize yks.length = ykn at *
              go_wp2_with fail
              refine (HQ2.out _).mono ?_
              rintro e w4 ⟨rfl, hf4⟩
              have HF4 := Lib.hid hf4
              clear hf4 d0 d1 d2 d3 d4 d5
              go_wp2
              go_roundw
              case rel => exact ⟨j + 1, c', q, a', by omega, rfl, by go_num, by rw [Hid, HPT.out]; simpa using HN.out, by rw [Hid, HPT.out]; have := HL5.out.move HF4.out; simpa using this, HRA5.out.move HF4.out, HRB5.out.move HF4.out, HAX5.out, HAY5.out⟩
              case measure => simp [intOf]; omega
            | true =>
              have hq6 : q + 1 ≤ 2000000 := by
                have h1 := szs2_length (pst2 (st0 ++ pushM2 (ins.take j) (ims.take j)))
                have h2 := HST.out j
                have h3 := HG2.out
                have h4 : q = _ := HN.out
                rw [show (pst2 (st0 ++ pushM2 (ins.take j) (ims.take j))).length = (st0 ++ pushM2 (ins.take j) (ims.take j)).length by simp [pst2]] at h1
                omega
              have hm1 : q + 1 ≤ maxLen := by unfold maxLen; omega
              have hm2 : (q + 1) * 176 ≤ 140737488355328 := by omega
              generalize hY : M.mk yk yf yn ys yla ylc yl yka ykc yks = y at *
              generalize hZ : M.mk zk zf zn zs zla zlc zl zka zkc zks = z at *
              have HYL2 : Hid (∀ W, RowAt W (some ⟨gi, 0, none⟩) (mcells ins) → (M.mk yk yf yn ys yla ylc yl yka ykc yks).lies W gi (j * 6)) := by rw [hY]; exact HYL
              have HZL2 : Hid (∀ W, RowAt W (some ⟨gj, 0, none⟩) (mcells ims) → (M.mk zk zf zn zs zla zlc zl zka zkc zks).lies W gj (j * 6)) := by rw [hZ]; exact HZL
              dsimp only [M.lies] at HYL2 HZL2
              clear hY hZ HYL HZL
              have HAF : Hid (∀ {W w5 : World} {g' cap' : Nat} (o : Obj), Fresh wr W → w5.ownsRow w.heap.size 74 12 (.slice (some ⟨g', 0, none⟩) (q + 1) cap') (q + 1) (dcells (st0 ++ pushM2 (ins.take j) (ims.take j)) ++ dcellsOf (y, z)) → (W.alloc o).grownBy w5 (Value.slice a' q c').ownBlock → ((Value.slice a' q c').ownBlock = some g' ∨ g' = W.heap.size + 1) → _) :=
                fun o hf h1 h2 h3 => after_push2 (p := (y, z)) o HN.out (HL5.out.move hf) (HRA5.out.move hf) (HRB5.out.move hf) HNE.out HNE2.out HAX5.out HAY5.out h1 h2 h3
              have HOW : Hid (∀ W, Fresh wr W → W.ownsRow w.heap.size 74 12 (.slice a' q c') q (dcells (st0 ++ pushM2 (ins.take j) (ims.take j)))) := fun W hf => by
                have h1 := (HL5.out.move hf).own
                rw [← (show q = _ from HN.out)] at h1
                exact h1
              have HLO : Hid (∀ W, Fresh wr W → w.heap.size ≤ W.heap.size) := fun W hf => (HL5.out.move hf).fresh.size
              have HNX : Hid (q + 1 = (st0 ++ pushM2 (ins.take j) (ims.take j) ++ [(y, z)]).length) := by
                have h4 : q = _ := HN.out
                rw [Hid, List.length_append, ← h4]; rfl
              have HEQ2 : Hid (st0 ++ pushM2 (ins.take (j + 1)) (ims.take (j + 1)) = st0 ++ pushM2 (ins.take j) (ims.take j) ++ [(y, z)]) := by
                rw [Hid, HPT.out, if_pos rfl, ← List.append_assoc]
              rw [HWC.out] at HAF HU
              generalize st0 ++ pushM2 (ins.take j) (ims.take j) = ST at *
              generalize yl.length = yln at *
              generalize yks.length = ykn at *
              generalize zl.length = zln at *
              generalize zks.length = zkn at *
              go_wp2_with fail
              refine (HQ2.out _).mono ?_
              rintro e w4 ⟨rfl, hf4⟩
              have HF4 := Lib.hid hf4
              clear d0 d1 d2 d3 d4 d5
              obtain ⟨d0, d1, d2, d3, d4, d5⟩ := HYL2.out w4 (HRA5.out.move hf4)
              obtain ⟨e0, e1, e2, e3, e4, e5⟩ := HZL2.out w4 (HRB5.out.move hf4)
              have hgi : gi < w4.heap.size := World.block_lt_of_cell? w4 _ d0
              have hgj : gj < w4.heap.size := World.block_lt_of_cell? w4 _ e0
              have hRd0 := Ready.mk' (B := w.heap.size) (k := 12) #[.int .i64 yk, .bool yf, .int .i64 yn, .string ys, .slice yla yln ylc, .slice yka ykn ykc, .int .i64 zk, .bool zf, .int .i64 zn, .string zs, .slice zla zln zlc, .slice zka zkn zkc] 74 (HOW.out w4 hf4) (HLO.out w4 hf4)
              have hRd : Hid (Ready w.heap.size 74 12 (w4.alloc (.cells #[.int .i64 yk, .bool yf, .int .i64 yn, .string ys, .slice yla yln ylc, .slice yka ykn ykc, .int .i64 zk, .bool zf, .int .i64 zn, .string zs, .slice zla zln zlc, .slice zka zkn zkc] 74)).drew (.slice a' q c') q (dcells ST) w4.heap.size [.int .i64 yk, .bool yf, .int .i64 yn, .string ys, .slice yla yln ylc, .slice yka ykn ykc, .int .i64 zk, .bool zf, .int .i64 zn, .string zs, .slice zla zln zlc, .slice zka zkn zkc]) := ⟨hRd0.own, hRd0.box, hRd0.low⟩
              have HAF2 : Hid (∀ {w5 : World} {g' cap' : Nat}, w5.ownsRow w.heap.size 74 12 (.slice (some ⟨g', 0, none⟩) (q + 1) cap') (q + 1) (dcells ST ++ [.int .i64 yk, .bool yf, .int .i64 yn, .string ys, .slice yla yln ylc, .slice yka ykn ykc, .int .i64 zk, .bool zf, .int .i64 zn, .string zs, .slice zla zln zlc, .slice zka zkn zkc]) → (w4.alloc (.cells #[.int .i64 yk, .bool yf, .int .i64 yn, .string ys, .slice yla yln ylc, .slice yka ykn ykc, .int .i64 zk, .bool zf, .int .i64 zn, .string zs, .slice zla zln zlc, .slice zka zkn zkc] 74)).drew.grownBy w5 (Value.slice a' q c').ownBlock → ((Value.slice a' q c').ownBlock = some g' ∨ g' = w4.heap.size + 1) → _) :=
                fun h1 h2 h3 => HAF.out (.cells #[.int .i64 yk, .bool yf, .int .i64 yn, .string ys, .slice yla yln ylc, .slice yka ykn ykc, .int .i64 zk, .bool zf, .int .i64 zn, .string zs, .slice zla zln zlc, .slice zka zkn zkc] 74) hf4 h1 ⟨h2.os, h2.tape, h2.output, h2.size, h2.block⟩ h3
              clear hf4 hRd0 HOW HLO HAF
              go_wp2_with fail
              go_region_held_law (fun w' => (w'.cell? ⟨gi, j * 6, none⟩ = some (.int .i64 yk) ∧ w'.cell? ⟨gi, j * 6 + 1, none⟩ = some (.bool yf) ∧ w'.cell? ⟨gi, j * 6 + 2, none⟩ = some (.int .i64 yn) ∧ w'.cell? ⟨gi, j * 6 + 3, none⟩ = some (.string ys) ∧ w'.cell? ⟨gi, j * 6 + 4, none⟩ = some (.slice yla yln ylc) ∧ w'.cell? ⟨gi, j * 6 + 5, none⟩ = some (.slice yka ykn ykc) ∧ w'.cell? ⟨gj, j * 6, none⟩ = some (.int .i64 zk) ∧ w'.cell? ⟨gj, j * 6 + 1, none⟩ = some (.bool zf) ∧ w'.cell? ⟨gj, j * 6 + 2, none⟩ = some (.int .i64 zn) ∧ w'.cell? ⟨gj, j * 6 + 3, none⟩ = some (.string zs) ∧ w'.cell? ⟨gj, j * 6 + 4, none⟩ = some (.slice zla zln zlc) ∧ w'.cell? ⟨gj, j * 6 + 5, none⟩ = some (.slice zka zkn zkc))) (go_keep)
                ((refine step_append_lies _ (by rfl) (.tmp 52) (.tmp 62) 75 (by rfl) w.heap.size 74 i0 _ 12 176 Tryz.underlying75 hi hz0 hz1 hz2 (by rfl) (by decide) (.slice a' q c') q (dcells ST) (by rfl) hRd.out.own ⟨w4.heap.size, 0, none⟩ 1 1 [.int .i64 yk, .bool yf, .int .i64 yn, .string ys, .slice yla yln ylc, .slice yka ykn ykc, .int .i64 zk, .bool zf, .int .i64 zn, .string zs, .slice zla zln zlc, .slice zka zkn zkc] (by rfl) (by rfl) hRd.out.box HU.out (by decide) hm1 hm2 hRd.out.low (w4.heap.size + 1) (by simp) ?_; intro g' cap' w5 hown5 hgrow5 hat5 hlt5; have HE := Lib.hid (HAF2.out hown5 hgrow5 hat5); clear hown5 hgrow5 hat5 hlt5; obtain ⟨u0, u1, u2, u3, u4, u5⟩ := HYL2.out w5 HE.out.2.1; obtain ⟨v0, v1, v2, v3, v4, v5⟩ := HZL2.out w5 HE.out.2.2.1))
              clear d0 d1 d2 d3 d4 d5 e0 e1 e2 e3 e4 e5
              clear u0 u1 u2 u3 u4 u5 v0 v1 v2 v3 v4 v5
              go_wp2
              go_roundw
              case rel => exact ⟨j + 1, cap', q + 1, some ⟨g', 0, none⟩, by omega, rfl, by go_num, by rw [Hid, HEQ2.out]; exact HNX.out, by rw [Hid, HEQ2.out]; exact HE.out.1, HE.out.2.1, HE.out.2.2.1, HE.out.2.2.2.1, HE.out.2.2.2.2⟩
              case measure => simp [intOf]; omega
          · obtain rfl : j = ins.length := by omega
            have HS := Lib.hid (HST.out ins.length)
            have ht : ims.take ins.length = ims := by rw [HLEN.out, List.take_length]
            rw [List.take_length, ht] at HN HL5 HS
            clear ht
            go_wp2
            go_roundg (szs2 (pst2 (st0 ++ pushM2 ins ims)))
            case measure => exact HS.out
            case rel => exact ⟨c', q, a', st0 ++ pushM2 ins ims, rfl, HN, Nat.le_refl _, Nat.le_trans (Nat.le_of_lt HS.out) HG2.out, HL5, HX⟩
theorem same_any (m m' : M) (w : World) (hm : m.At w) (hm' : m'.At w) (hs : m.plain.size ≤ 1000000) : Calls Tryz.prog 15 #[m.val, m'.val] w fun e w' => e = .returned (.bool (m.plain.same m'.plain)) ∧ Fresh w w' := by
  rw [same_eq]
  cases ha : m.plain.alike m'.plain with
  | false => exact same_no m m' w hm hm' ha
  | true => exact same_yes m m' w hm hm' hs ha
end v
section
open Go.ChangeShapes Go.WideShapes Go.ChangeAt Go.RowKit
attribute [local go_sem ↓] Go.wp_at_zero Go.wp_at_succ
variable {w : World}
theorem cut_one : cutL V [45, 32, 97, 58, 32, 49, 32, 35, 32, 120] = ([⟨0, 0, true, []⟩, ⟨0, 2, false, [97, 58, 32, 49]⟩], 0, 0) := by kernel_rfl
theorem lawake_any (w : World) (hT : Tabs w) : Calls Tryz.prog 20 #[] w fun e w' => e = .returned (.bool true) ∧ Fresh w w' := by
  have h0 := cutM_any [45, 32, 97, 58, 32, 49, 32, 35, 32, 120] w (by decide) hT
  rw [cut_one] at h0
  have HL2 : Hid (Calls Tryz.prog 24 #[.string ⟨#[45, 32, 97, 58, 32, 49, 32, 35, 32, 120]⟩] w (CutIs w ([⟨0, 0, true, []⟩, ⟨0, 2, false, [97, 58, 32, 49]⟩], 0, 0))) := h0
  have HT := Lib.hid hT
  clear h0 hT
  go_enter Tryz.func20, Tryz.ntmps20
  go_wp2_with fail
  refine HL2.out.mono ?_
  rintro e w1 ⟨v, rfl, hb, hf1⟩
  have HF1 := Lib.hid hf1
  obtain ⟨g, cap, rfl⟩ := ownsRow_succ (k := 1) hb
  have HB := Lib.hid hb
  clear hf1 hb
  go_wp2_with fail
  refine (awake_any _ (HT.out.move HF1.out)).mono ?_
  rintro e w2 ⟨rfl, hf2⟩
  have HF2 := Lib.hid (HF1.out.trans hf2)
  have hb := HB.out.fresh hf2
  have c0 : w2.cell? ⟨g, 0, none⟩ = some (.int .i64 0) := hb.cell 0 (by decide) 0 (by decide) rfl
  have c1 : w2.cell? ⟨g, 1, none⟩ = some (.int .i64 0) := hb.cell 0 (by decide) 1 (by decide) rfl
  have c2 : w2.cell? ⟨g, 2, none⟩ = some (.bool true) := hb.cell 0 (by decide) 2 (by decide) rfl
  have c3 : w2.cell? ⟨g, 3, none⟩ = some (.string ⟨#[]⟩) := hb.cell 0 (by decide) 3 (by decide) rfl
  have c4 : w2.cell? ⟨g, 4, none⟩ = some (.int .i64 0) := hb.cell 1 (by decide) 0 (by decide) rfl
  have c5 : w2.cell? ⟨g, 5, none⟩ = some (.int .i64 2) := hb.cell 1 (by decide) 1 (by decide) rfl
  have c6 : w2.cell? ⟨g, 6, none⟩ = some (.bool false) := hb.cell 1 (by decide) 2 (by decide) rfl
  have c7 : w2.cell? ⟨g, 7, none⟩ = some (.string ⟨#[97, 58, 32, 49]⟩) := hb.cell 1 (by decide) 3 (by decide) rfl
  clear hf2 hb
  go_wp2
  go_ret
  exact ⟨rfl, HF2.out⟩
end
namespace y
open Go.ChangeShapes Go.WideShapes Go.ChangeAt Go.RowKit
attribute [local go_sem ↓] Go.wp_at_zero Go.wp_at_succ
variable {w : World}
abbrev oneL : List v.M := [v.M.ofInt 1]
theorem one_at (W : World) : (v.M.ofInt 1).At W := v.at_flat W (by decide)
theorem row_one (W : World) (g : Nat) (h : W.heap[g]? = some (.cells #[.int .i64 2, .bool false, .int .i64 1, .string ⟨#[]⟩, .slice none 0 0, .slice none 0 0] 27 (0, 0))) :
    Calls Tryz.prog 22 #[.slice (some ⟨g, 0, none⟩) 1 1] W fun e w' => (∃ a c', e = .returned (.agg #[.int .i64 4, .bool false, .int .i64 0, .string ⟨#[]⟩, .slice a 1 c', .slice none 0 0]) ∧ v.RowAt w' a (v.mcells oneL)) ∧ Fresh W w' :=
  (v.row_any oneL g 1 W (.inr ⟨g, rfl, fun j x hj => cell_of_at h (by simpa [v.mcells, v.M.cells, v.M.ofInt] using hj)⟩) (by decide) (by decide)).mono fun e w' k => k
abbrev rowM (a : Option Addr) (c : Nat) : v.M := .mk 4 false 0 ⟨#[]⟩ a c oneL none 0 []
abbrev mapM (a : Option Addr) (c : Nat) (a2 : Option Addr) (c2 : Nat) : v.M := .mk 5 false 0 ⟨#[]⟩ none 0 [] a2 c2 [(tx [97], rowM a c)]
theorem map_one (W : World) (g c : Nat) (a : Option Addr) (h : W.heap[g]? = some (.cells #[.string ⟨#[97]⟩, .int .i64 4, .bool false, .int .i64 0, .string ⟨#[]⟩, .slice a 1 c, .slice none 0 0] 54 (0, 0))) :
    Calls Tryz.prog 21 #[.slice (some ⟨g, 0, none⟩) 1 1] W fun e w' => (∃ a2 c2, e = .returned (.agg #[.int .i64 5, .bool false, .int .i64 0, .string ⟨#[]⟩, .slice none 0 0, .slice a2 1 c2]) ∧ v.RowAt w' a2 (v.pcells [(tx [97], rowM a c)])) ∧ Fresh W w' :=
  (v.map_any [(tx [97], rowM a c)] g 1 W (.inr ⟨g, rfl, fun j x hj => cell_of_at h (by simpa [v.pcells, v.pcellsOf, v.M.cells, tx] using hj)⟩) (by simp) (by simp)).mono fun e w' k => k
theorem mapM_plain (a : Option Addr) (c : Nat) (a2 : Option Addr) (c2 : Nat) : (mapM a c a2 c2).plain = exV := by
  simp [v.M.plain, v.plainL, v.plainK, v.M.ofInt, exV, vKeys, dNest, vList, vInt]
theorem exV_size : exV.size ≤ 1000000 := by
  simp [exV, vKeys, dNest, vList, vInt, v.V.size, v.sizeL, v.sizeK]
theorem same_one (m : v.M) (W : World) (a : Option Addr) (c : Nat) (a2 : Option Addr) (c2 : Nat) (hm : m.At W) (hp : m.plain = exV) (h1 : v.RowAt W a (v.mcells oneL)) (h2 : v.RowAt W a2 (v.pcells [(tx [97], rowM a c)])) :
    Calls Tryz.prog 15 #[m.val, .agg #[.int .i64 5, .bool false, .int .i64 0, .string ⟨#[]⟩, .slice none 0 0, .slice a2 1 c2]] W fun e w' => e = .returned (.bool true) ∧ Fresh W w' := by
  have hr : (rowM a c).At W := .mk (by decide) h1 (.nil W) (by simp) (by simp) (fun _ h => by cases h) (fun m hm => by rw [List.mem_singleton] at hm; subst hm; exact one_at W) (fun _ h => by cases h)
  have hx : (mapM a c a2 c2).At W := .mk (by decide) (.nil W) h2 (by simp) (by simp) (fun p h => by rw [List.mem_singleton] at h; subst h; exact (show (tx [97]).size ≤ 1000000 from by decide)) (fun _ h => by cases h) (fun p h => by rw [List.mem_singleton] at h; subst h; exact hr)
  have k := v.same_any m (mapM a c a2 c2) W hm hx (by rw [hp]; exact exV_size)
  rw [hp, mapM_plain, v.V.same_refl] at k
  exact k
theorem parse_exV (w : World) (hE : Env w) : Calls Tryz.prog 7 #[.string ⟨#[97, 58, 10, 32, 32, 45, 32, 49, 10]⟩] w fun e w' => (∃ m : v.M, e = .returned (.tuple #[m.val, .agg #[.int .i64 0, .int .i64 0]]) ∧ m.plain = exV ∧ m.New w.heap.size w') ∧ Fresh w w' := by
  have k := parse_any exL w (by decide) hE
  rw [parse_ex] at k
  exact k
structure Two (w1 w0 : World) (m : v.M) (g : Nat) (c : Int) : Prop where
  vb : w0.heap[g]? = some (.cells m.cells.toArray 27 (0, 0))
  mb : w0.heap[g + 1]? = some (.cells #[.int .i64 0, .int .i64 c] 30 (0, 0))
  fr : Fresh w1 w0
theorem two_new (w1 : World) (m : v.M) (c : Int) : Two w1 ((w1.alloc (.cells m.cells.toArray 27 (0, 0))).alloc (.cells #[.int .i64 0, .int .i64 c] 30 (0, 0))) m w1.heap.size c :=
  ⟨v.at_alloc (v.at_new w1 _), by have := v.at_new (w1.alloc (.cells m.cells.toArray 27 (0, 0))) (.cells #[.int .i64 0, .int .i64 c] 30 (0, 0)); rwa [World.size_alloc] at this, ((Fresh.refl w1).alloc _).alloc _⟩
theorem awake_any (w : World) (hE : Env w) : Calls Tryz.prog 6 #[] w fun e w' => e = .returned (.bool true) ∧ Fresh w w' := by
  have HP := Lib.hid (parse_exV w hE)
  have HE := Lib.hid hE
  have HA1 : Hid (∀ W, Fresh w W → Calls Tryz.prog 18 #[] W fun e w' => e = .returned (.bool true) ∧ Fresh W w') := fun W f => v.awake_any W (hE.move f).tabs
  have HA2 : Hid (∀ W, Fresh w W → Calls Tryz.prog 19 #[] W fun e w' => e = .returned (.bool true) ∧ Fresh W w') := fun W f => jawake_any W (hE.move f).tabs (hE.move f).rng
  have HA3 : Hid (∀ W, Fresh w W → Calls Tryz.prog 20 #[] W fun e w' => e = .returned (.bool true) ∧ Fresh W w') := fun W f => lawake_any W (hE.move f).tabs
  have HA4 : Hid (∀ W : World, Calls Tryz.prog 23 #[.int .i64 1] W fun e w' => e = .returned (.agg #[.int .i64 2, .bool false, .int .i64 1, .string ⟨#[]⟩, .slice none 0 0, .slice none 0 0]) ∧ Fresh W w') := fun W => v.whole_any 1 W
  clear hE
  go_enter Tryz.func6, Tryz.ntmps6
  go_wp2_with fail
  refine HP.out.mono ?_
  rintro e w1 ⟨⟨m, rfl, hp, hn⟩, hf1⟩
  have HPL := Lib.hid hp
  have HNW := Lib.hid hn
  have HF1 := Lib.hid hf1
  clear hp hn hf1
  obtain ⟨mk, mf, mn, ms, mla, mlc, ml, mka, mkc, mks⟩ := m
  dsimp only [v.M.val]
  have HTW : Hid (Two w1 ((w1.alloc (.cells #[.int .i64 mk, .bool mf, .int .i64 mn, .string ms, .slice mla ml.length mlc, .slice mka mks.length mkc] 27 (0, 0))).alloc (.cells #[.int .i64 0, .int .i64 0] 30 (0, 0))) (.mk mk mf mn ms mla mlc ml mka mkc mks) w1.heap.size 0) := two_new w1 (.mk mk mf mn ms mla mlc ml mka mkc mks) 0
  go_wp2_with fail
  generalize (w1.alloc (.cells #[.int .i64 mk, .bool mf, .int .i64 mn, .string ms, .slice mla ml.length mlc, .slice mka mks.length mkc] 27 (0, 0))).alloc (.cells #[.int .i64 0, .int .i64 0] 30 (0, 0)) = w0 at *
  generalize w1.heap.size = g at *
  have HKP : Hid (∀ W : World, Fresh w0 W → (W.cell? ⟨g, 0, none⟩ = some (.int .i64 mk) ∧ W.cell? ⟨g, 1, none⟩ = some (.bool mf) ∧ W.cell? ⟨g, 2, none⟩ = some (.int .i64 mn) ∧ W.cell? ⟨g, 3, none⟩ = some (.string ms) ∧ W.cell? ⟨g, 4, none⟩ = some (.slice mla ml.length mlc) ∧ W.cell? ⟨g, 5, none⟩ = some (.slice mka mks.length mkc) ∧ W.cell? ⟨g + 1, 0, none⟩ = some (.int .i64 0) ∧ W.cell? ⟨g + 1, 1, none⟩ = some (.int .i64 0))) := fun W f => by
    have h1 := v.Fresh.at f HTW.out.vb
    have h2 := v.Fresh.at f HTW.out.mb
    exact ⟨cell_of_at h1 rfl, cell_of_at h1 rfl, cell_of_at h1 rfl, cell_of_at h1 rfl, cell_of_at h1 rfl, cell_of_at h1 rfl, cell_of_at h2 rfl, cell_of_at h2 rfl⟩
  obtain ⟨k0, k1, k2, k3, k4, k5, k6, k7⟩ := HKP.out w0 (.refl _)
  have HK0 : Hid (Fresh w0 w0.drew) := (Fresh.refl w0).drew
  have HW0 : Hid (Fresh w w0) := HF1.out.trans HTW.out.fr
  have HSM : Hid (∀ (W : World) (a : Option Addr) (c : Nat) (a2 : Option Addr) (c2 : Nat), Fresh w1 W → v.RowAt W a (v.mcells oneL) → v.RowAt W a2 (v.pcells [(tx [97], rowM a c)]) → Calls Tryz.prog 15 #[v.mval mk mf mn ms mla ml.length mlc mka mks.length mkc, .agg #[.int .i64 5, .bool false, .int .i64 0, .string ⟨#[]⟩, .slice none 0 0, .slice a2 1 c2]] W fun e w' => e = .returned (.bool true) ∧ Fresh W w') :=
    fun W a c a2 c2 f h1 h2 => same_one (.mk mk mf mn ms mla mlc ml mka mkc mks) W a c a2 c2 (HNW.out.move f).at HPL.out h1 h2
  have HF10 : Hid (Fresh w1 w0) := HTW.out.fr
  clear HTW
  go_region_held3 (fun w' => (w'.cell? ⟨g, 0, none⟩ = some (.int .i64 mk) ∧ w'.cell? ⟨g, 1, none⟩ = some (.bool mf) ∧ w'.cell? ⟨g, 2, none⟩ = some (.int .i64 mn) ∧ w'.cell? ⟨g, 3, none⟩ = some (.string ms) ∧ w'.cell? ⟨g, 4, none⟩ = some (.slice mla ml.length mlc) ∧ w'.cell? ⟨g, 5, none⟩ = some (.slice mka mks.length mkc) ∧ w'.cell? ⟨g + 1, 0, none⟩ = some (.int .i64 0) ∧ w'.cell? ⟨g + 1, 1, none⟩ = some (.int .i64 0))) (go_keep)
    (first
      | (go_at_call 18; (with_reducible refine (HA1.out _ HW0.out.drew).mono ?_); rintro e W1 ⟨rfl, hf⟩; obtain ⟨k0, k1, k2, k3, k4, k5, k6, k7⟩ := HKP.out W1 (HK0.out.trans hf); have HK1 := Lib.hid (HK0.out.trans hf); clear hf)
      | (go_at_call 19; (with_reducible refine (HA2.out _ (HW0.out.trans HK1.out)).mono ?_); rintro e W2 ⟨rfl, hf⟩; obtain ⟨k0, k1, k2, k3, k4, k5, k6, k7⟩ := HKP.out W2 (HK1.out.trans hf); have HK2 := Lib.hid (HK1.out.trans hf); clear hf)
      | (go_at_call 20; (with_reducible refine (HA3.out _ (HW0.out.trans HK2.out)).mono ?_); rintro e W3 ⟨rfl, hf⟩; obtain ⟨k0, k1, k2, k3, k4, k5, k6, k7⟩ := HKP.out W3 (HK2.out.trans hf); have HK3 := Lib.hid (HK2.out.trans hf); clear hf)
      | (go_at_call 23; (with_reducible refine (HA4.out _).mono ?_); rintro e W4 ⟨rfl, hf⟩; obtain ⟨k0, k1, k2, k3, k4, k5, k6, k7⟩ := HKP.out W4 (HK3.out.trans hf); have HK4 := Lib.hid (HK3.out.trans hf); clear hf)
      | (go_at_call 22; (with_reducible refine (row_one _ _ (v.at_new W4 _)).mono ?_); rintro e W5 ⟨⟨a, c, rfl, hr⟩, hf⟩; obtain ⟨k0, k1, k2, k3, k4, k5, k6, k7⟩ := HKP.out W5 ((HK4.out.alloc _).trans hf); have HK5 := Lib.hid ((HK4.out.alloc _).trans hf); have HR5 := Lib.hid hr; clear hr; clear hf)
      | (go_at_call 21; (with_reducible refine (map_one _ _ _ _ (v.at_new W5 _)).mono ?_); rintro e W6 ⟨⟨a2, c2, rfl, hr2⟩, hf⟩; obtain ⟨k0, k1, k2, k3, k4, k5, k6, k7⟩ := HKP.out W6 ((HK5.out.alloc _).trans hf); have HK6 := Lib.hid ((HK5.out.alloc _).trans hf); have HR6 := Lib.hid hr2; clear hr2; have HR56 := Lib.hid (HR5.out.move (((Fresh.refl _).alloc _).trans hf)); clear hf)
      | (go_at_call 15; (with_reducible refine (HSM.out _ a c a2 c2 (HF10.out.trans HK6.out) HR56.out HR6.out).mono ?_); rintro e W7 ⟨rfl, hf⟩; obtain ⟨k0, k1, k2, k3, k4, k5, k6, k7⟩ := HKP.out W7 (HK6.out.trans hf); have HK7 := Lib.hid (HK6.out.trans hf); clear hf))
  go_wp2
  go_ret
  exact ⟨rfl, HW0.out.trans HK7.out⟩
end y
namespace v
open Go.ChangeShapes Go.WideShapes Go.ChangeAt Go.RowKit
variable {w : World}
theorem rwrong_other (k : Int) (f : Bool) (n : Int) (s : ByteArray) (la : Option Addr) (ln lc : Nat) (ka : Option Addr) (kn kc : Nat) (w : World) (hs : s.size ≤ 1000000) (h4 : k ≠ 4) (h5 : k ≠ 5) :
    Calls Tryz.prog 30 #[mval k f n s la ln lc ka kn kc] w fun e w' => e = .returned (.int .i64 (if k < 0 ∨ 5 < k then 15 else if k = 3 then textW s else 0)) ∧ Fresh w w' := by
  have e4 : (k == 4) = false := by simpa using h4
  have e5 : (k == 5) = false := by simpa using h5
  by_cases hlo : k < 0
  · rw [if_pos (.inl hlo)]
    clear h4 h5 e4 e5
    go_enter Tryz.func30, Tryz.ntmps30
    go_wp2
    go_ret
    exact ⟨rfl, (Fresh.refl w).alloc _⟩
  by_cases hhi : 5 < k
  · rw [if_pos (.inr hhi)]
    clear h4 h5 e4 e5
    go_enter Tryz.func30, Tryz.ntmps30
    go_wp2
    go_ret
    exact ⟨rfl, (Fresh.refl w).alloc _⟩
  rw [if_neg (by omega)]
  by_cases h3 : k = 3
  · subst h3
    rw [if_pos rfl]
    have HQ : Hid (∀ W, Calls Tryz.prog 63 #[.string s] W fun e w' => e = .returned (.int .i64 (textW s)) ∧ W = w') := fun W => rtext_any s W hs
    generalize textW s = x at *
    clear h4 h5 e4 e5 hlo hhi
    go_enter Tryz.func30, Tryz.ntmps30
    go_wp2_with fail
    refine (HQ.out _).mono ?_
    rintro e w1 ⟨rfl, rfl⟩
    go_wp2
    go_ret
    exact ⟨rfl, (Fresh.refl w).alloc _⟩
  · rw [if_neg h3]
    have e3 : (k == 3) = false := by simpa using h3
    clear h3 h4 h5
    go_enter Tryz.func30, Tryz.ntmps30
    go_wp2
    go_ret
    exact ⟨rfl, (Fresh.refl w).alloc _⟩
theorem rwrong_list (f : Bool) (n : Int) (s : ByteArray) (la : Option Addr) (lc : Nat) (l : List M) (ka : Option Addr) (kn kc : Nat) (w : World) (hl : RowAt w la (mcells l)) (ll : l.length ≤ 1000000)
    (ih : ∀ x ∈ l, ∀ W, Fresh w W → Calls Tryz.prog 30 #[x.val] W fun e w' => e = .returned (.int .i64 x.plain.wrong) ∧ Fresh W w') :
    Calls Tryz.prog 30 #[mval 4 f n s la l.length lc ka kn kc] w fun e w' => e = .returned (.int .i64 (wrongL (l.map M.plain))) ∧ Fresh w w' := by
  have HIH := Lib.hid ih
  have HR := Lib.hid hl
  clear ih hl
  go_enter Tryz.func30, Tryz.ntmps30
  go_wp2
  go_loopw [3] (fun a3 wq => ∃ j : Nat, j ≤ l.length ∧ a3 = .int .i64 j ∧ Hid (wrongL (l.map M.plain) = wrongL ((l.map M.plain).drop j)) ∧ Hid (Fresh (w.alloc (.cells #[.int .i64 4, .bool f, .int .i64 n, .string s, .slice la l.length lc, .slice ka kn kc] 36)) wq)) (fun a3 _ => l.length - (intOf a3).toNat)
  case atStart => exact ⟨0, Nat.zero_le _, rfl, rfl, Fresh.refl _⟩
  case round =>
    obtain ⟨j, hj, rfl, HE, HW⟩ := hrel
    obtain ⟨b0, b1, b2, b3, b4, b5⟩ := box6' (HW.out.at (at_new w _))
    have HW2 := Lib.hid (((Fresh.refl w).alloc _).trans HW.out)
    by_cases hlt : j < l.length
    · obtain ⟨g, eg⟩ := row_some HR.out j hlt
      subst eg
      have hy := mrow_get (HR.out.move HW2.out) j hlt
      have hd := wrongL_drop (l.map M.plain) j (by simpa using hlt)
      rw [List.getElem_map] at hd
      have HX := Lib.hid hd
      have HQ : Hid (Calls Tryz.prog 30 #[l[j].val] wr fun e w' => e = .returned (.int .i64 l[j].plain.wrong) ∧ Fresh wr w') := HIH.out _ (List.getElem_mem _) wr HW2.out
      clear hd
      generalize l[j] = y at *
      generalize y.plain.wrong = x at *
      obtain ⟨yk, yf, yn, ys, yla, ylc, yl, yka, ykc, yks⟩ := y
      obtain ⟨d0, d1, d2, d3, d4, d5⟩ := hy
      dsimp only [M.val] at HQ
      generalize yl.length = yln at *
      generalize yks.length = ykn at *
      by_cases hx : x = 0
      · subst hx
        have HX2 : Hid (wrongL ((l.map M.plain).drop j) = wrongL ((l.map M.plain).drop (j + 1))) := by rw [Hid, HX.out, if_neg (by simp)]
        go_wp2_with fail
        refine HQ.out.mono ?_
        rintro e w3 ⟨rfl, hf⟩
        have HF := Lib.hid (HW.out.trans hf)
        clear hf
        go_wp2
        go_roundw
        case rel => exact ⟨j + 1, by omega, by go_num, by rw [Hid, HE.out, HX2.out], HF.out⟩
        case measure => simp [intOf]; omega
      · have HX2 : Hid (wrongL (l.map M.plain) = x) := by rw [Hid, HE.out, HX.out, if_pos hx]
        have hxb : (x == 0) = false := by simpa using hx
        go_wp2_with fail
        refine HQ.out.mono ?_
        rintro e w3 ⟨rfl, hf⟩
        have HF := Lib.hid (HW2.out.trans hf)
        clear hf
        go_wp2
        go_ret
        exact ⟨ret_int (by rw [HX2.out]), HF.out⟩
    · obtain rfl : j = l.length := by omega
      have HX : Hid (wrongL (l.map M.plain) = 0) := by rw [Hid, HE.out, List.drop_eq_nil_of_le (by simp)]; rfl
      go_wp2
      go_ret
      exact ⟨ret_int (by rw [HX.out]), HW2.out⟩
theorem not_take {ks : List (ByteArray × M)} {k : Nat} (h : k < ks.length) {s : ByteArray} (hm : s ∉ (ks.map (·.1)).take k) (hne : ks[k].1 ≠ s) : s ∉ (ks.map (·.1)).take (k + 1) := by
  rw [List.take_succ_eq_append_getElem (by simpa using h), List.getElem_map, List.mem_append, List.mem_singleton]
  rintro (h | h)
  · exact hm h
  · exact hne h.symm
theorem in_take {ks : List (ByteArray × M)} {k i : Nat} (hki : k < i) (hi : i < ks.length) : ks[k].1 ∈ (ks.map (·.1)).take i := by
  rw [List.mem_take_iff_getElem]
  exact ⟨k, by simp; omega, by simp⟩
theorem rwrong_keys (f : Bool) (n : Int) (s : ByteArray) (la : Option Addr) (ln lc : Nat) (ka : Option Addr) (kc : Nat) (ks : List (ByteArray × M)) (w : World) (hl : RowAt w ka (pcells ks)) (ll : ks.length ≤ 1000000) (hn : ∀ p ∈ ks, p.1.size ≤ 1000000)
    (ih : ∀ x ∈ ks, ∀ W, Fresh w W → Calls Tryz.prog 30 #[x.2.val] W fun e w' => e = .returned (.int .i64 x.2.plain.wrong) ∧ Fresh W w') :
    Calls Tryz.prog 30 #[mval 5 f n s la ln lc ka ks.length kc] w fun e w' => e = .returned (.int .i64 (if keysW (ks.map (·.1)) ≠ 0 then keysW (ks.map (·.1)) else wrongL (ks.map fun p => p.2.plain))) ∧ Fresh w w' := by
  have HIH := Lib.hid ih
  have HR := Lib.hid hl
  have HN := Lib.hid hn
  clear ih hl hn
  obtain ⟨RES, HRES⟩ : ∃ R : Int, Hid ((if keysW (ks.map (·.1)) ≠ 0 then keysW (ks.map (·.1)) else wrongL (ks.map fun p => p.2.plain)) = R) := ⟨_, rfl⟩
  rw [HRES.out]
  go_enter Tryz.func30, Tryz.ntmps30
  go_wp2
  go_loopw [5] (fun a wq => ∃ j : Nat, j ≤ ks.length ∧ a = .int .i64 j ∧ Hid (textsW (ks.map (·.1)) = textsW ((ks.map (·.1)).drop j)) ∧ Hid (Fresh (w.alloc (.cells #[.int .i64 5, .bool f, .int .i64 n, .string s, .slice la ln lc, .slice ka ks.length kc] 36)) wq)) (fun a _ => ks.length - (intOf a).toNat)
  case atStart => exact ⟨0, Nat.zero_le _, rfl, rfl, Fresh.refl _⟩
  case round =>
    obtain ⟨j, hj, rfl, HE, HW⟩ := hrel
    obtain ⟨b0, b1, b2, b3, b4, b5⟩ := box6' (HW.out.at (at_new w _))
    have HW2 := Lib.hid (((Fresh.refl w).alloc _).trans HW.out)
    by_cases hlt : j < ks.length
    · obtain ⟨g, eg⟩ := prow_some HR.out j hlt
      subst eg
      obtain ⟨c, _⟩ := prow_get (HR.out.move HW2.out) j hlt
      have HX := Lib.hid (textsW_at ks j hlt)
      have hb := textW_bd ks[j].1
      have HQ : Hid (∀ W, Calls Tryz.prog 63 #[.string ks[j].1] W fun e w' => e = .returned (.int .i64 (textW ks[j].1)) ∧ W = w') := fun W => rtext_any _ W (HN.out _ (List.getElem_mem _))
      generalize ks[j].1 = nm at *
      generalize textW nm = x at *
      by_cases hx : x = 0
      · subst hx
        have HX2 : Hid (textsW ((ks.map (·.1)).drop j) = textsW ((ks.map (·.1)).drop (j + 1))) := by rw [Hid, HX.out, if_neg (by simp)]
        go_wp2_with fail
        refine (HQ.out _).mono ?_
        rintro e w3 ⟨rfl, rfl⟩
        go_wp2
        go_roundw
        case rel => exact ⟨j + 1, by omega, by go_num, by rw [Hid, HE.out, HX2.out], HW.out⟩
        case measure => simp [intOf]; omega
      · have HX2 : Hid (RES = x) := by
          have h1 : textsW (ks.map (·.1)) = x := by rw [HE.out, HX.out, if_pos hx]
          have h2 : keysW (ks.map (·.1)) = x := by rw [keysW, h1, if_pos hx]
          rw [Hid, ← HRES.out, h2, if_pos hx]
        have hxb : (x == 0) = false := by simpa using hx
        go_wp2_with fail
        refine (HQ.out _).mono ?_
        rintro e w3 ⟨rfl, rfl⟩
        go_wp2
        go_ret
        exact ⟨ret_int (by rw [HX2.out]), HW2.out⟩
    · obtain rfl : j = ks.length := by omega
      have HK : Hid (keysW (ks.map (·.1)) = if (ks.map (·.1)).Nodup then 0 else 8) := by
        have h1 : textsW (ks.map (·.1)) = 0 := by
          rw [HE.out, List.drop_eq_nil_of_le (by simp)]; rfl
        rw [Hid, keysW, h1, if_neg (by simp)]
      have HWA := Lib.hid HW.out
      clear HE HW HW2
      go_wp2
      clear b0 b1 b2 b3 b4 b5
      go_loopw [7] (fun a wq => ∃ i : Nat, i ≤ ks.length ∧ a = .int .i64 i ∧ Hid (((ks.map (·.1)).take i).Nodup) ∧ Hid (Fresh (w.alloc (.cells #[.int .i64 5, .bool f, .int .i64 n, .string s, .slice la ln lc, .slice ka ks.length kc] 36)) wq)) (fun a _ => ks.length - (intOf a).toNat)
      case atStart => exact ⟨0, Nat.zero_le _, rfl, by simp [Hid], HWA.out⟩
      case round =>
        obtain ⟨i, hi, rfl, HND, HW⟩ := hrel
        clear HWA
        obtain ⟨b0, b1, b2, b3, b4, b5⟩ := box6' (HW.out.at (at_new w _))
        have HW2 := Lib.hid (((Fresh.refl w).alloc _).trans HW.out)
        by_cases hlt : i < ks.length
        · obtain ⟨g, eg⟩ := prow_some HR.out i hlt
          subst eg
          have H1 := Lib.hid (@twice_at ks i hlt)
          have H2 := Lib.hid (@once_at ks i hlt HND.out)
          go_wp2
          clear b0 b1 b2 b3 b4 b5
          go_loopw [8] (fun a wq => ∃ k : Nat, k ≤ i ∧ a = .int .i64 k ∧ Hid (ks[i].1 ∉ (ks.map (·.1)).take k) ∧ Hid (Fresh (w.alloc (.cells #[.int .i64 5, .bool f, .int .i64 n, .string s, .slice la ln lc, .slice (some ⟨g, 0, none⟩) ks.length kc] 36)) wq)) (fun a _ => i - (intOf a).toNat)
          case atStart => exact ⟨0, Nat.zero_le _, rfl, by simp [Hid], HW.out⟩
          case round =>
            obtain ⟨k, hk, rfl, HNI, HW3⟩ := hrel
            clear HW HW2
            obtain ⟨b0, b1, b2, b3, b4, b5⟩ := box6' (HW3.out.at (at_new w _))
            have HW4 := Lib.hid (((Fresh.refl w).alloc _).trans HW3.out)
            by_cases hki : k < i
            · obtain ⟨c, _⟩ := prow_get (HR.out.move HW4.out) i hlt
              obtain ⟨d, _⟩ := prow_get (HR.out.move HW4.out) k (by omega)
              have H3 := Lib.hid (not_take (ks := ks) (k := k) (by omega) HNI.out)
              have H4 := Lib.hid (in_take (ks := ks) hki hlt)
              have i1 : (0 : Int) ≤ (i : Int) := by omega
              have i2 : (i : Int) < (ks.length : Int) := by omega
              have i3 : (0 : Int) ≤ (k : Int) := by omega
              have i4 : (k : Int) < (ks.length : Int) := by omega
              have hklt : k < ks.length := by omega
              generalize hp : ks[i].1 = p at *
              generalize hq : ks[k].1 = q at *
              have HP := Lib.hid hp
              have HQ := Lib.hid hq
              clear hp hq
              by_cases hpq : p = q
              · have hb : (p.toList == q.toList) = true := by rw [toList_beq, decide_eq_true hpq]
                have HX : Hid (RES = 8) := by
                  have h1 : ¬ (ks.map (·.1)).Nodup := H1.out (by rw [hpq]; exact H4.out)
                  have h2 : keysW (ks.map (·.1)) = 8 := by rw [HK.out, if_neg h1]
                  rw [Hid, ← HRES.out, h2, if_pos (by decide)]
                clear hpq
                go_wp2
                go_quiet (fail)
                go_wp2
                go_ret
                exact ⟨ret_int (by rw [HX.out]), HW4.out.drewN _⟩
              · have hb : (p.toList == q.toList) = false := by rw [toList_beq, decide_eq_false hpq]
                have H5 := Lib.hid (H3.out (fun e => hpq e.symm))
                clear hpq
                go_wp2
                go_quiet (fail)
                go_wp2
                go_roundw
                case rel => exact ⟨k + 1, by omega, by go_num, H5.out, HW3.out.drewN _⟩
                case measure => simp [intOf]; omega
            · obtain rfl : k = i := by omega
              have H5 := Lib.hid (H2.out HNI.out)
              go_wp2
              go_roundw
              case rel => exact ⟨k + 1, by omega, by go_num, H5.out, HW3.out⟩
              case measure => simp [intOf]; omega
        · obtain rfl : i = ks.length := by omega
          have HX : Hid (RES = wrongL (ks.map fun p => p.2.plain)) := by
            have h1 := HND.out
            rw [List.take_of_length_le (by simp)] at h1
            have h2 : keysW (ks.map (·.1)) = 0 := by rw [HK.out, if_pos h1]
            rw [Hid, ← HRES.out, h2, if_neg (by simp)]
          have HWA := Lib.hid HW.out
          clear HW HW2
          go_wp2
          clear b0 b1 b2 b3 b4 b5
          go_loopw [9] (fun a wq => ∃ j : Nat, j ≤ ks.length ∧ a = .int .i64 j ∧ Hid (wrongL (ks.map fun p => p.2.plain) = wrongL ((ks.map fun p => p.2.plain).drop j)) ∧ Hid (Fresh (w.alloc (.cells #[.int .i64 5, .bool f, .int .i64 n, .string s, .slice la ln lc, .slice ka ks.length kc] 36)) wq)) (fun a _ => ks.length - (intOf a).toNat)
          case atStart => exact ⟨0, Nat.zero_le _, rfl, rfl, HWA.out⟩
          case round =>
            obtain ⟨j, hj, rfl, HE, HW⟩ := hrel
            clear HWA
            obtain ⟨b0, b1, b2, b3, b4, b5⟩ := box6' (HW.out.at (at_new w _))
            have HW2 := Lib.hid (((Fresh.refl w).alloc _).trans HW.out)
            by_cases hlt : j < ks.length
            · obtain ⟨g, eg⟩ := prow_some HR.out j hlt
              subst eg
              obtain ⟨c, hy⟩ := prow_get (HR.out.move HW2.out) j hlt
              have hd := wrongL_drop (ks.map fun p => p.2.plain) j (by simpa using hlt)
              rw [List.getElem_map] at hd
              have HXX := Lib.hid hd
              have HQ : Hid (Calls Tryz.prog 30 #[ks[j].2.val] wr fun e w' => e = .returned (.int .i64 ks[j].2.plain.wrong) ∧ Fresh wr w') := HIH.out _ (List.getElem_mem _) wr HW2.out
              clear hd c
              generalize ks[j].2 = y at *
              generalize y.plain.wrong = x at *
              obtain ⟨yk, yf, yn, ys, yla, ylc, yl, yka, ykc, yks⟩ := y
              obtain ⟨d0, d1, d2, d3, d4, d5⟩ := hy
              dsimp only [M.val] at HQ
              generalize yl.length = yln at *
              generalize yks.length = ykn at *
              by_cases hx : x = 0
              · subst hx
                have HX2 : Hid (wrongL ((ks.map fun p => p.2.plain).drop j) = wrongL ((ks.map fun p => p.2.plain).drop (j + 1))) := by rw [Hid, HXX.out, if_neg (by simp)]
                go_wp2_with fail
                refine HQ.out.mono ?_
                rintro e w3 ⟨rfl, hf⟩
                have HF := Lib.hid (HW.out.trans hf)
                clear hf
                go_wp2
                go_roundw
                case rel => exact ⟨j + 1, by omega, by go_num, by rw [Hid, HE.out, HX2.out], HF.out⟩
                case measure => simp [intOf]; omega
              · have HX2 : Hid (RES = x) := by rw [Hid, HX.out, HE.out, HXX.out, if_pos hx]
                have hxb : (x == 0) = false := by simpa using hx
                go_wp2_with fail
                refine HQ.out.mono ?_
                rintro e w3 ⟨rfl, hf⟩
                have HF := Lib.hid (HW2.out.trans hf)
                clear hf
                go_wp2
                go_ret
                exact ⟨ret_int (by rw [HX2.out]), HF.out⟩
            · obtain rfl : j = ks.length := by omega
              have HXX : Hid (RES = 0) := by rw [Hid, HX.out, HE.out, List.drop_eq_nil_of_le (by simp)]; rfl
              go_wp2
              go_ret
              exact ⟨ret_int (by rw [HXX.out]), HW2.out⟩
theorem rwrong_all (N : Nat) : ∀ (m : M) (w : World), m.plain.size ≤ N → m.At w → Calls Tryz.prog 30 #[m.val] w fun e w' => e = .returned (.int .i64 m.plain.wrong) ∧ Fresh w w' := by
  induction N with
  | zero => intro m w hN; have := m.plain.size_pos; omega
  | succ N ih =>
    intro m w hN hat
    have hsz := size_inside m.plain
    rw [plain_inside] at hsz
    have hin : ∀ x ∈ m.inside, ∀ W, Fresh w W → Calls Tryz.prog 30 #[x.val] W fun e w' => e = .returned (.int .i64 x.plain.wrong) ∧ Fresh W w' := fun x hx W hf => by
      have := size_mem (List.mem_map_of_mem (f := M.plain) hx)
      exact ih x W (by omega) ((hat.inside x hx).move hf)
    rw [wrong_eq, plain_inside]
    obtain ⟨k, f, n, s, la, lc, l, ka, kc, ks⟩ := m
    obtain ⟨hs, hl, hk, ll, lk, hn, _⟩ := hat.parts
    have hown : (M.mk k f n s la lc l ka kc ks).plain.own = if k < 0 ∨ 5 < k then 15 else if k = 3 then textW s else if k = 5 then keysW (ks.map (·.1)) else 0 := by
      have : ((M.mk k f n s la lc l ka kc ks).plain.keys.map (·.1)) = ks.map (·.1) := plain_names _
      unfold V.own
      rw [this]; rfl
    rw [hown]
    by_cases h4 : k = 4
    · subst h4
      exact rwrong_list f n s la lc l ka ks.length kc w hl ll hin
    by_cases h5 : k = 5
    · subst h5
      have hi : (M.mk 5 f n s la lc l ka kc ks).inside = ks.map (·.2) := rfl
      rw [hi] at hin ⊢
      rw [List.map_map]
      exact rwrong_keys f n s la l.length lc ka kc ks w hk lk hn (fun x hx => hin x.2 (List.mem_map_of_mem (f := (·.2)) hx))
    · have hi : (M.mk k f n s la lc l ka kc ks).inside = [] := by simp [M.inside, M.kind, h4, h5]
      rw [hi]
      have := rwrong_other k f n s la l.length lc ka ks.length kc w hs h4 h5
      have e : (if (if k < 0 ∨ 5 < k then (15 : Int) else if k = 3 then textW s else if k = 5 then keysW (ks.map (·.1)) else 0) ≠ 0 then (if k < 0 ∨ 5 < k then (15 : Int) else if k = 3 then textW s else if k = 5 then keysW (ks.map (·.1)) else 0) else wrongL ([].map M.plain)) = if k < 0 ∨ 5 < k then 15 else if k = 3 then textW s else 0 := by
        rw [if_neg h5]
        generalize (if k < 0 ∨ 5 < k then (15 : Int) else if k = 3 then textW s else 0) = z
        by_cases hz : z = 0
        · subst hz; rfl
        · rw [if_pos hz]
      rw [e]
      exact this
theorem rcheck_any (m : M) (w : World) (hat : m.At w) (hs : m.plain.size ≤ 1000000) : Calls Tryz.prog 11 #[m.val] w fun e w' => e = .returned (.int .i64 m.plain.check) ∧ Fresh w w' := by
  have HQ : Hid (∀ W, Fresh w W → Calls Tryz.prog 29 #[m.val] W fun e w' => e = .returned (.int .i64 m.plain.depth) ∧ Fresh W w') := fun W hf => rdepth_any m W (hat.move hf) hs
  have HI : Hid (∀ W, Fresh w W → Calls Tryz.prog 30 #[m.val] W fun e w' => e = .returned (.int .i64 m.plain.wrong) ∧ Fresh W w') := fun W hf => rwrong_all m.plain.size m W (Nat.le_refl _) (hat.move hf)
  have HC : Hid (m.plain.check = if 32 < m.plain.depth then 9 else m.plain.wrong) := rfl
  have hdb : m.plain.depth ≤ 1000000 := Nat.le_trans m.plain.depth_size hs
  clear hat hs
  rw [HC.out]
  clear HC
  generalize m.plain.wrong = x at *
  generalize m.plain.depth = d at *
  obtain ⟨k, f, n, s, la, lc, l, ka, kc, ks⟩ := m
  dsimp only [M.val] at *
  generalize l.length = ln at *
  generalize ks.length = kn at *
  by_cases hd : 32 < d
  · rw [if_pos hd]
    go_enter Tryz.func11, Tryz.ntmps11
    go_wp2_with fail
    refine (HQ.out _ ((Fresh.refl w).alloc _)).mono ?_
    rintro e w1 ⟨rfl, hf⟩
    go_wp2
    go_ret
    exact ⟨rfl, ((Fresh.refl w).alloc _).trans hf⟩
  · rw [if_neg hd]
    go_enter Tryz.func11, Tryz.ntmps11
    go_wp2_with fail
    refine (HQ.out _ ((Fresh.refl w).alloc _)).mono ?_
    rintro e w1 ⟨rfl, hf⟩
    have HF1 := Lib.hid (((Fresh.refl w).alloc _).trans hf)
    obtain ⟨b0, b1, b2, b3, b4, b5⟩ := box6' (hf.at (at_new w _))
    clear hf
    go_wp2_with fail
    refine (HI.out _ HF1.out).mono ?_
    rintro e w2 ⟨rfl, hf2⟩
    go_wp2
    go_ret
    exact ⟨rfl, HF1.out.trans hf2⟩
end v
end Go.Proofs.YtcljplkkgpjhlaaGreatDoorR
