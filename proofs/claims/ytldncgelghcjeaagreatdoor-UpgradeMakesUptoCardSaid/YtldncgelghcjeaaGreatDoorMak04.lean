/-
  PROVED: for every state of version 1 and every state of version 2, whose readings hold together with the library's two tables at most 1048576 values and letters, the given statement UpgradeMakes returns true, where the library's two UTF-8 tables read as the program's text lays them (the card ties that); no other condition.
  bosunlaw20.UpgradeMakes, walked.
-/
import Derived.Test.YtldncgelghcjeaaGreatDoorUpd07
import Derived.Test.YtldncgelghcjeaaGreatDoorMak02
import Derived.Test.YtldncgelghcjeaaGreatDoorMak03
import Derived.Deep.Cut
import Derived.Test.YtldncgelghcjeaaGreatDoorCat01
import Derived.Test.YtldncgelghcjeaaGreatDoorMak01
set_option linter.unusedSimpArgs false
set_option linter.unusedVariables false
namespace Go.Proofs.YtldncgelghcjeaaGreatDoor.K
open Go.ChangeShapes Go.WideShapes Go.ChangeAt Go.RowKit
set_option maxRecDepth 100000

theorem ResU.act {A0 : Act} {w0 : World} {p q : SMU} {b c : Nat} {a : Act} {W : World} {m n : SMU} {zx zy : Nat} (h : ResU A0 w0 p q b c a W m n zx zy) (hs : A0.tmps.size = 46) (hd : A0.defers = []) :
    a = (((((A0.put (some 16) p.val).put (some 17) m.val).put (some 18) q.val).put (some 19) n.val).put (some 5) (.pointer (some ⟨zx, 0, none⟩))).put (some 6) (.pointer (some ⟨zy, 0, none⟩)) := by
  refine act_ext (by rw [h.fs]; simp only [put_size]; exact hs.symm) (by rw [h.fd]; simp only [put_defers]; exact hd.symm) (fun t => ?_)
  by_cases e5 : t = 6
  · subst e5; rw [h.eb1, ev_same (by simp only [put_size]; omega)]
  rw [ev_ne (fun e => e5 e.symm)]
  by_cases e4 : t = 5
  · subst e4; rw [h.eb0, ev_same (by simp only [put_size]; omega)]
  rw [ev_ne (fun e => e4 e.symm)]
  by_cases e3 : t = 19
  · subst e3; rw [h.es3, ev_same (by simp only [put_size]; omega)]
  rw [ev_ne (fun e => e3 e.symm)]
  by_cases e2 : t = 18
  · subst e2; rw [h.es2, ev_same (by simp only [put_size]; omega)]
  rw [ev_ne (fun e => e2 e.symm)]
  by_cases e1 : t = 17
  · subst e1; rw [h.es1, ev_same (by simp only [put_size]; omega)]
  rw [ev_ne (fun e => e1 e.symm)]
  by_cases e0 : t = 16
  · subst e0; rw [h.es0, ev_same (by omega)]
  rw [ev_ne (fun e => e0 e.symm)]
  exact h.sm t e0 e1 e2 e3 e4 e5
set_option maxHeartbeats 16000000 in
theorem makes_any (s : Int) (a : Option Addr) (L : List P1) (c : Nat) (t : Int) (a3 : Option Addr) (M : List P2) (c3 : Nat) (w : World) (h : RowAt w a (p1s L)) (h3 : AtP M w a3) (hT : Tabs w)
    (hl : L.length ≤ 1048576) (hf : ∀ p ∈ L, p.Fit 1048576) (hs0 : 0 ≤ s) (hs1 : s ≤ 4294967295) (hl3 : M.length ≤ 1048576) (hf3 : ∀ p ∈ M, p.Sm) (ht0 : 0 ≤ t) (ht1 : t ≤ 18446744073709551615) :
    Calls Tryz.prog 6 #[st1 s a L.length c, st2 t a3 M.length c3] w fun e w' => e = .returned (.bool true) ∧ Fresh w w' := by
  have HT := Lib.hid hT
  have HAW := Lib.hid (fun W (f : Fresh w W) => awake20_any W (HT.out.move f))
  have HX := Lib.hid (two_boxes w (.cells #[.int .u32 s, .slice a L.length c] 63) (.cells #[.int .u64 t, .slice a3 M.length c3] 66))
  have HS1 := Lib.hid (fun W (f : Fresh w W) => small1_any s a L c W (h.move f) (fun p hp => (hf p hp).mono (by decide)) (by unfold maxLen; omega))
  have HS3 := Lib.hid (fun W (f : Fresh w W) => small2_at t a3 M c3 W (h3.move f) (fun p hp => (hf3 p hp).1.mono (by decide)) (by unfold maxLen; omega) (fun p hp => by have := (hf3 p hp).2; unfold maxLen; omega))
  have HPA : Hid (SMU.AtA ⟨true, s, a, L, [], c⟩ w) := ⟨rfl, h, hl⟩
  have HPB : Hid (SMU.AtB ⟨false, t, a3, [], M, c3⟩ w) := ⟨rfl, h3, hl3, fun p hp => (hf3 p hp).2⟩
  have hem : (L.map up1).length = L.length := List.length_map ..
  have hem2 : ((L.map up1).map up2).length = L.length := by rw [List.length_map, List.length_map]
  have hem3 : (M.map up2).length = M.length := List.length_map ..
  have hm1 := mapS1 hf
  have hm2 := mapS2 (mapS1 hf)
  have hm3 := mapS2 hf3
  -- the code's
  have HT2 : Hid (∀ W, Fresh w W → Calls Tryz.prog 30 #[.agg #[.int .u32 s, .slice a L.length c]] W fun e w' => ∃ o cp, e = .returned (.agg #[.int .u64 s, .slice o L.length cp]) ∧ AtP (L.map up1) w' o ∧ Fresh W w') := fun W f => (two_any s a L c W (h.move f) hl hs0 hs1).mono (fun e w' ⟨o, cp, e1, e2, e3⟩ => ⟨o, cp, e1, e2.at, e3⟩)
  have HT3 : Hid (∀ W, Fresh w W → Calls Tryz.prog 32 #[.agg #[.int .u64 t, .slice a3 M.length c3]] W fun e w' => ∃ o cp, e = .returned (.agg #[.int .u64 t, .slice o M.length cp]) ∧ AtL (M.map up2) w' o ∧ Fresh W w') := fun W f => (three_any t a3 M c3 W (h3.move f) hl3 hf3).mono (fun e w' ⟨o, cp, e1, e2, e3⟩ => ⟨o, cp, e1, e2.at, e3⟩)
  have HB : Hid (∀ W, Fresh w W → Calls Tryz.prog 34 #[.agg #[.int .u32 s, .slice a L.length c]] W fun e w' => ∃ o cp, e = .returned (.agg #[.int .u64 s, .slice o L.length cp]) ∧ AtL ((L.map up1).map up2) w' o ∧ Fresh W w') := fun W f => both_any s a L c W (h.move f) hl hf hs0 hs1
  have HO2 : Hid (∀ W o cp, AtP (L.map up1) W o → Calls Tryz.prog 28 #[.agg #[.int .u64 s, .slice o L.length cp]] W fun e w' => ∃ o cp, e = .returned (.agg #[.int .u64 s, .slice o L.length cp]) ∧ AtP (L.map up1) w' o ∧ Fresh W w') := fun W o cp hp => by
    have := of2_at s o _ cp W hp (by rw [hem]; omega) (fun p hp => Nat.le_trans (hm1 p hp).2 (by decide))
    rw [hem] at this
    exact this
  have HO3 : Hid (∀ W o cp, AtL (M.map up2) W o → Calls Tryz.prog 11 #[.agg #[.int .u64 t, .slice o M.length cp]] W fun e w' => ∃ o cp, e = .returned (.agg #[.int .u64 t, .slice o M.length cp]) ∧ AtL (M.map up2) w' o ∧ Fresh W w') := fun W o cp hp => by
    have := of3_at t o _ cp W hp (by rw [hem3]; exact hl3) hm3
    rw [hem3] at this
    exact this
  have HOB : Hid (∀ W o cp, AtL ((L.map up1).map up2) W o → Calls Tryz.prog 11 #[.agg #[.int .u64 s, .slice o L.length cp]] W fun e w' => ∃ o cp, e = .returned (.agg #[.int .u64 s, .slice o L.length cp]) ∧ AtL ((L.map up1).map up2) w' o ∧ Fresh W w') := fun W o cp hp => by
    have := of3_at s o _ cp W hp (by rw [hem2]; exact hl) hm2
    rw [hem2] at this
    exact this
  -- the document's
  have HR2 : Hid (∀ W o cp, RowAt W o (p1s L) → Calls Tryz.prog 31 #[.agg #[.int .u32 s, .slice o L.length cp]] W fun e w' => ∃ o cp, e = .returned (.agg #[.int .u64 s, .slice o L.length cp]) ∧ AtP (L.map up1) w' o ∧ Fresh W w') := fun W o cp hp => rtwo_any s o L cp W hp (by omega) hs0 hs1
  have HR3 : Hid (∀ W o cp, AtP M W o → Calls Tryz.prog 33 #[.agg #[.int .u64 t, .slice o M.length cp]] W fun e w' => ∃ o cp, e = .returned (.agg #[.int .u64 t, .slice o M.length cp]) ∧ AtL (M.map up2) w' o ∧ Fresh W w') := fun W o cp hp => rthree_any t o M cp W hp hl3 hf3
  have HRB : Hid (∀ W o cp, AtP (L.map up1) W o → Calls Tryz.prog 33 #[.agg #[.int .u64 s, .slice o L.length cp]] W fun e w' => ∃ o cp, e = .returned (.agg #[.int .u64 s, .slice o L.length cp]) ∧ AtL ((L.map up1).map up2) w' o ∧ Fresh W w') := fun W o cp hp => by
    have := rthree_any s o _ cp W hp (by rw [hem]; exact hl) hm1
    rw [hem] at this
    exact this
  have HZ2 : Hid (∀ W o cp o' cp', AtP (L.map up1) W o → AtP (L.map up1) W o' → Calls Tryz.prog 29 #[.agg #[.int .u64 s, .slice o L.length cp], .agg #[.int .u64 s, .slice o' L.length cp']] W fun e w' => e = .returned (.bool true) ∧ Fresh W w') := fun W o cp o' cp' k1 k2 => by
    have := rsame2_at s s _ _ o o' cp cp' W k1 k2 (by rw [hem]; omega) (fun p hp => Nat.le_trans (hm1 p hp).2 (by decide))
    rw [same2_self, hem] at this
    exact this
  have HZ3 : Hid (∀ W o cp o' cp', AtL (M.map up2) W o → AtL (M.map up2) W o' → Calls Tryz.prog 21 #[.agg #[.int .u64 t, .slice o M.length cp], .agg #[.int .u64 t, .slice o' M.length cp']] W fun e w' => e = .returned (.bool true) ∧ Fresh W w') := fun W o cp o' cp' k1 k2 => by
    have := rsame3_at t t _ _ o o' cp cp' W k1 k2 (by rw [hem3]; exact hl3) hm3 hm3
    rw [same3_self, hem3] at this
    exact this
  have HZB : Hid (∀ W o cp o' cp', AtL ((L.map up1).map up2) W o → AtL ((L.map up1).map up2) W o' → Calls Tryz.prog 21 #[.agg #[.int .u64 s, .slice o L.length cp], .agg #[.int .u64 s, .slice o' L.length cp']] W fun e w' => e = .returned (.bool true) ∧ Fresh W w') := fun W o cp o' cp' k1 k2 => by
    have := rsame3_at s s _ _ o o' cp cp' W k1 k2 (by rw [hem2]; exact hl) hm2 hm2
    rw [same3_self, hem2] at this
    exact this
  clear hT h h3 hf hf3 hm1 hm2 hm3 hem hem2 hem3
  dsimp only [st1, st2] at *
  cases hc1 : smA 0 L with
  | false =>
    rw [hc1] at HS1
    clear hc1 HT2 HT3 HB HO2 HO3 HOB HR2 HR3 HRB HZ2 HZ3 HZB HPA HPB
    go_enter Tryz.func6, Tryz.ntmps6
    go_wp2_with (fail)
    refine (HS1.out _ HX.out.2.2.1).mono ?_
    rintro e w1 ⟨rfl, hf⟩
    have HF1 := Lib.hid (HX.out.2.2.1.trans hf)
    clear hf
    go_wp2_with (fail)
    refine (HAW.out _ HF1.out).mono ?_
    rintro e w2 ⟨rfl, hf⟩
    have HF2 := Lib.hid (HF1.out.trans hf)
    clear hf
    go_wp2
    go_ret
    exact ⟨rfl, HF2.out⟩
  | true =>
  rw [hc1] at HS1
  clear hc1
  cases hc3 : smB 0 M with
  | false =>
    rw [hc3] at HS3
    clear hc3 HT2 HT3 HB HO2 HO3 HOB HR2 HR3 HRB HZ2 HZ3 HZB HPA HPB
    go_enter Tryz.func6, Tryz.ntmps6
    go_wp2_with (fail)
    refine (HS1.out _ HX.out.2.2.1).mono ?_
    rintro e w1 ⟨rfl, hf⟩
    have HF1 := Lib.hid (HX.out.2.2.1.trans hf)
    have hb := hf.at HX.out.2.1
    have b0 := cell_of_at hb (i := 0) rfl
    have b1 := cell_of_at hb (i := 1) rfl
    clear hf hb
    go_wp2_with (fail)
    refine (HS3.out _ HF1.out).mono ?_
    rintro e w2 ⟨rfl, hf⟩
    have HF2 := Lib.hid (HF1.out.trans hf)
    clear hf b0 b1
    go_wp2_with (fail)
    refine (HAW.out _ HF2.out).mono ?_
    rintro e w3 ⟨rfl, hf⟩
    have HF3 := Lib.hid (HF2.out.trans hf)
    clear hf
    go_wp2
    go_ret
    exact ⟨rfl, HF3.out⟩
  | true =>
  rw [hc3] at HS3
  clear hc3
  go_enter Tryz.func6, Tryz.ntmps6
  go_wp2_with (fail)
  refine (HS1.out _ HX.out.2.2.1).mono ?_
  rintro e w1 ⟨rfl, hf⟩
  have HF1 := Lib.hid (HX.out.2.2.1.trans hf)
  have hb := hf.at HX.out.2.1
  have HXA := Lib.hid (hf.at HX.out.1)
  have HXB := Lib.hid hb
  have b0 := cell_of_at hb (i := 0) rfl
  have b1 := cell_of_at hb (i := 1) rfl
  have hsz := HX.out.2.2.2
  clear hf hb
  go_wp2_with (fail)
  refine (HS3.out _ HF1.out).mono ?_
  rintro e w2 ⟨rfl, hf⟩
  have HF2 := Lib.hid (HF1.out.trans hf)
  have HXA := Lib.hid (hf.at HXA.out)
  have HXB := Lib.hid (hf.at HXB.out)
  clear hf b0 b1 HS1 HS3
  go_upto_region 3 with (fail)
  all_goals try (exfalso; omega)
  rename_i KK hKK
  refine wp_region_any rfl ?_
  refine regionU (w0 := w2) (p := ⟨true, s, a, L, [], c⟩) (q := ⟨false, t, a3, [], M, c3⟩) (b := w.heap.size) (c := w.heap.size + 1) ⟨HPA.out.1, HPA.out.2.1.move HF2.out, HPA.out.2.2⟩ ⟨HPB.out.1, HPB.out.2.1.move HF2.out, HPB.out.2.2⟩ rfl rfl rfl rfl ((Fresh.refl w2).drew.at HXA.out) ((Fresh.refl w2).drew.at HXB.out) (Fresh.refl w2).drew (lt_of_at HXA.out) (lt_of_at HXB.out) ?_
  intro a5 W5 m n zx zy hres
  refine hKK a5 W5 ?_
  have hact := hres.act rfl rfl
  obtain ⟨mo, ms, ma, ml1, ml2, mc⟩ := m
  obtain ⟨no, ns, na, nl1, nl2, nc⟩ := n
  obtain ⟨hmp1, hmp2⟩ := hres.mp
  obtain ⟨hnq1, hnq2⟩ := hres.nq
  dsimp only [SMU.l] at hmp1 hmp2 hnq1 hnq2
  simp only [Prod.mk.injEq] at hmp2 hnq2
  obtain ⟨rfl, x1, x2⟩ := hmp2
  obtain ⟨rfl, x3, x4⟩ := hnq2
  obtain rfl : L = ml1 := x1.symm
  obtain rfl : M = nl2 := x4.symm
  obtain rfl : s = ms := hmp1.symm
  obtain rfl : t = ns := hnq1.symm
  subst x2 x3
  have HMR : Hid (RowAt W5 ma (p1s L)) := hres.om.choose_spec.1 rfl
  have HNR : Hid (AtP M W5 na) := hres.on.choose_spec.2 rfl
  have G1 : Hid (W5.heap[w.heap.size]? = some (.cells #[.int .u32 s, .slice a L.length c] 63)) := hres.g1
  have G2 : Hid (W5.heap[w.heap.size + 1]? = some (.cells #[.int .u64 t, .slice a3 M.length c3] 66)) := hres.g2
  have G3 : Hid (W5.heap[zx]? = some (.cells #[.int .u32 s, .slice ma L.length mc] 71)) := hres.g3
  have G4 : Hid (W5.heap[zy]? = some (.cells #[.int .u64 t, .slice na M.length nc] 75)) := hres.g4
  have HF5 := Lib.hid (HF2.out.trans hres.fr)
  clear hres hKK HXA HXB HPA HPB HF2 HF1 HX
  subst hact
  dsimp only [SMU.val, SMU.k, SMU.len]
  simp only [if_true, Act.put, List.setIfInBounds_toArray, List.set_cons_zero, List.set_cons_succ]
  have HKP : Hid (∀ W, Fresh W5 W → W.cell? ⟨w.heap.size, 0, none⟩ = some (.int .u32 s) ∧ W.cell? ⟨w.heap.size, 1, none⟩ = some (.slice a L.length c) ∧ W.cell? ⟨w.heap.size + 1, 0, none⟩ = some (.int .u64 t) ∧ W.cell? ⟨w.heap.size + 1, 1, none⟩ = some (.slice a3 M.length c3) ∧ W.cell? ⟨zx, 0, none⟩ = some (.int .u32 s) ∧ W.cell? ⟨zx, 1, none⟩ = some (.slice ma L.length mc) ∧ W.cell? ⟨zy, 0, none⟩ = some (.int .u64 t) ∧ W.cell? ⟨zy, 1, none⟩ = some (.slice na M.length nc)) := fun W f =>
    ⟨cell_of_at (f.at G1.out) (i := 0) rfl, cell_of_at (f.at G1.out) (i := 1) rfl, cell_of_at (f.at G2.out) (i := 0) rfl, cell_of_at (f.at G2.out) (i := 1) rfl, cell_of_at (f.at G3.out) (i := 0) rfl, cell_of_at (f.at G3.out) (i := 1) rfl, cell_of_at (f.at G4.out) (i := 0) rfl, cell_of_at (f.at G4.out) (i := 1) rfl⟩
  clear G1 G2 G3 G4
  go_wp2_with (fail)
  obtain ⟨k0, k1, k2, k3, k4, k5, k6, k7⟩ := HKP.out W5 (.refl _)
  have HK : Hid (Fresh W5 W5.drew) := (Fresh.refl W5).drew
  go_region_held3 (fun w' => (w'.cell? ⟨w.heap.size, 0, none⟩ = some (.int .u32 s) ∧ w'.cell? ⟨w.heap.size, 1, none⟩ = some (.slice a L.length c) ∧ w'.cell? ⟨w.heap.size + 1, 0, none⟩ = some (.int .u64 t) ∧ w'.cell? ⟨w.heap.size + 1, 1, none⟩ = some (.slice a3 M.length c3) ∧ w'.cell? ⟨zx, 0, none⟩ = some (.int .u32 s) ∧ w'.cell? ⟨zx, 1, none⟩ = some (.slice ma L.length mc) ∧ w'.cell? ⟨zy, 0, none⟩ = some (.int .u64 t) ∧ w'.cell? ⟨zy, 1, none⟩ = some (.slice na M.length nc))) (go_keep)
    (first
      | (go_at_call 26; (with_reducible refine (HAW.out _ (HF5.out.trans HK.out)).mono ?_); rintro e W2 ⟨rfl, hf⟩; have HK := Lib.hid (HK.out.trans hf); obtain ⟨k0, k1, k2, k3, k4, k5, k6, k7⟩ := HKP.out _ HK.out; clear hf)
      | (go_at_call 30; (with_reducible refine (HT2.out _ (HF5.out.trans HK.out)).mono ?_); rintro e W2 ⟨o1, p1, rfl, hr, hf⟩; have HQ1 := Lib.hid hr; clear hr; have HK := Lib.hid (HK.out.trans hf); obtain ⟨k0, k1, k2, k3, k4, k5, k6, k7⟩ := HKP.out _ HK.out; clear hf)
      | (go_at_call 28; (with_reducible refine (HO2.out _ o1 p1 HQ1.out).mono ?_); rintro e W2 ⟨o2, p2, rfl, hr, hf⟩; have HQ2 := Lib.hid hr; clear hr; have HK := Lib.hid (HK.out.trans hf); obtain ⟨k0, k1, k2, k3, k4, k5, k6, k7⟩ := HKP.out _ HK.out; clear hf)
      | (go_at_call 31; (with_reducible refine (HR2.out _ ma mc (HMR.out.move HK.out)).mono ?_); rintro e W2 ⟨o3, p3, rfl, hr, hf⟩; have HQ2 := Lib.hid (HQ2.out.move hf); have HQ3 := Lib.hid hr; clear hr; have HK := Lib.hid (HK.out.trans hf); obtain ⟨k0, k1, k2, k3, k4, k5, k6, k7⟩ := HKP.out _ HK.out; clear hf)
      | (go_at_call 29; (with_reducible refine (HZ2.out _ o2 p2 o3 p3 HQ2.out HQ3.out).mono ?_); rintro e W2 ⟨rfl, hf⟩; clear HQ1 HQ2 HQ3; have HK := Lib.hid (HK.out.trans hf); obtain ⟨k0, k1, k2, k3, k4, k5, k6, k7⟩ := HKP.out _ HK.out; clear hf)
      | (go_at_call 32; (with_reducible refine (HT3.out _ (HF5.out.trans HK.out)).mono ?_); rintro e W2 ⟨o4, p4, rfl, hr, hf⟩; have HQ4 := Lib.hid hr; clear hr; have HK := Lib.hid (HK.out.trans hf); obtain ⟨k0, k1, k2, k3, k4, k5, k6, k7⟩ := HKP.out _ HK.out; clear hf)
      | (go_at_call 11; (with_reducible refine (HO3.out _ o4 p4 HQ4.out).mono ?_); rintro e W2 ⟨o5, p5, rfl, hr, hf⟩; have HQ5 := Lib.hid hr; clear hr HQ4; have HK := Lib.hid (HK.out.trans hf); obtain ⟨k0, k1, k2, k3, k4, k5, k6, k7⟩ := HKP.out _ HK.out; clear hf)
      | (go_at_call 33; (with_reducible refine (HR3.out _ na nc (HNR.out.move HK.out)).mono ?_); rintro e W2 ⟨o6, p6, rfl, hr, hf⟩; have HQ5 := Lib.hid (HQ5.out.move hf); have HQ6 := Lib.hid hr; clear hr; have HK := Lib.hid (HK.out.trans hf); obtain ⟨k0, k1, k2, k3, k4, k5, k6, k7⟩ := HKP.out _ HK.out; clear hf)
      | (go_at_call 21; (with_reducible refine (HZ3.out _ o5 p5 o6 p6 HQ5.out HQ6.out).mono ?_); rintro e W2 ⟨rfl, hf⟩; clear HQ5 HQ6; have HK := Lib.hid (HK.out.trans hf); obtain ⟨k0, k1, k2, k3, k4, k5, k6, k7⟩ := HKP.out _ HK.out; clear hf)
      | (go_at_call 34; (with_reducible refine (HB.out _ (HF5.out.trans HK.out)).mono ?_); rintro e W2 ⟨o7, p7, rfl, hr, hf⟩; have HQ7 := Lib.hid hr; clear hr; have HK := Lib.hid (HK.out.trans hf); obtain ⟨k0, k1, k2, k3, k4, k5, k6, k7⟩ := HKP.out _ HK.out; clear hf)
      | (go_at_call 11; (with_reducible refine (HOB.out _ o7 p7 HQ7.out).mono ?_); rintro e W2 ⟨o8, p8, rfl, hr, hf⟩; have HQ8 := Lib.hid hr; clear hr; have HK := Lib.hid (HK.out.trans hf); obtain ⟨k0, k1, k2, k3, k4, k5, k6, k7⟩ := HKP.out _ HK.out; clear hf)
      | (go_at_call 31; (with_reducible refine (HR2.out _ ma mc (HMR.out.move HK.out)).mono ?_); rintro e W2 ⟨o9, p9, rfl, hr, hf⟩; have HQ8 := Lib.hid (HQ8.out.move hf); have HQ9 := Lib.hid hr; clear hr; have HK := Lib.hid (HK.out.trans hf); obtain ⟨k0, k1, k2, k3, k4, k5, k6, k7⟩ := HKP.out _ HK.out; clear hf)
      | (go_at_call 33; (with_reducible refine (HRB.out _ o9 p9 HQ9.out).mono ?_); rintro e W2 ⟨o10, p10, rfl, hr, hf⟩; have HQ8 := Lib.hid (HQ8.out.move hf); have HQ10 := Lib.hid hr; clear hr; have HK := Lib.hid (HK.out.trans hf); obtain ⟨k0, k1, k2, k3, k4, k5, k6, k7⟩ := HKP.out _ HK.out; clear hf)
      | (go_at_call 21; (with_reducible refine (HZB.out _ o8 p8 o10 p10 HQ8.out HQ10.out).mono ?_); rintro e W2 ⟨rfl, hf⟩; have HK := Lib.hid (HK.out.trans hf); obtain ⟨k0, k1, k2, k3, k4, k5, k6, k7⟩ := HKP.out _ HK.out; clear hf))
  all_goals go_wp2
  all_goals go_ret
  all_goals exact ⟨rfl, HF5.out.trans HK.out⟩
end Go.Proofs.YtldncgelghcjeaaGreatDoor.K
namespace Go.Proofs.YtldncgelghcjeaaGreatDoor
open Go.ChangeShapes Go.WideShapes Go.ChangeAt Go.RowKit Go.Shelf
open Go.ChangeMaps (open_string shut_string)
set_option linter.unusedVariables false

theorem laid_met_makes (os : Os) (args : Array Value) : laidMet Tryz.prog Rows.upgradeMakesUptoRow.laid ((laidWorld os).forCall (fun _ _ => 0) ⟨#[], args, []⟩).memory :=
  (LaidIn.of_run (l := [("unicode/utf8.acceptRanges", Rows.laid_unicode_utf8_acceptRanges), ("unicode/utf8.first", Rows.laid_unicode_utf8_first)]) [1, 0] 8 (by kernel_rfl) (by kernel_rfl) (by kernel_rfl) (by kernel_rfl)).met
theorem witness_makes (os : Os) {H : Type} (enc : TypeId × Value → H) :
    (Rows.OpenSpec.upto Rows.upgradeMakesSpec).preRow enc Tryz.prog Tryz.f6 Rows.upgradeMakesUptoRow.domain false Rows.upgradeMakesUptoRow.laid ((laidWorld os).forCall (fun _ _ => 0) ⟨#[], #[(.agg #[.int .u32 0, .slice none 0 0] : Value), (.agg #[.int .u64 0, .slice none 0 0] : Value)], []⟩).memory #[(.agg #[.int .u32 0, .slice none 0 0] : Value), (.agg #[.int .u64 0, .slice none 0 0] : Value)] := by
  have hw : (DataW.whole enc Tryz.prog ((laidWorld os).forCall (fun _ _ => 0) ⟨#[], #[(.agg #[.int .u32 0, .slice none 0 0] : Value), (.agg #[.int .u64 0, .slice none 0 0] : Value)], []⟩).memory Tryz.f6.params.toList (Rows.OpenSpec.upto Rows.upgradeMakesSpec).vars false #[(.agg #[.int .u32 0, .slice none 0 0] : Value), (.agg #[.int .u64 0, .slice none 0 0] : Value)].toList 8).map (fun x => (x.1, x.2.1)) =
      some ([.agg [.lit (.int .u32 0), .nil], .agg [.lit (.int .u64 0), .nil]], []) := by kernel_rfl
  obtain ⟨⟨x1, x2, x3⟩, hx, hx1⟩ := Option.map_eq_some_iff.1 hw
  simp only [Prod.mk.injEq] at hx1
  obtain ⟨rfl, rfl⟩ := hx1
  exact OpenSpec.preRow_of_cond 8 hx (by kernel_rfl) (fun k hk => by cases hk; kernel_rfl) (by kernel_rfl) (laid_met_makes os _)
set_option maxRecDepth 100000 in
theorem utf8_tabs_makes {W : World} (hL : laidMet Tryz.prog Rows.upgradeMakesUptoRow.laid W) : UTabs W :=
  utf8Tabs_of_readsT u8types ⟨by kernel_rfl, by kernel_rfl, by kernel_rfl, by kernel_rfl, by kernel_rfl, by kernel_rfl, by kernel_rfl⟩
    (by rw [← first_eq]; exact Lib.laidMet.reads hL (.tail _ (.head _))) (by rw [← accept_eq]; exact Lib.laidMet.reads hL (.head _))
set_option maxRecDepth 100000 in
set_option maxHeartbeats 2000000 in
theorem lifted_makes (os : Os) (started : os.Started) (H : Type) (enc : TypeId × Value → H) (F : Stop.Interp) :
    ReturnsInHanded {} Tryz.checked os 6 .any ((Rows.OpenSpec.upto Rows.upgradeMakesSpec).preRow enc Tryz.prog Tryz.f6 Rows.upgradeMakesUptoRow.domain false Rows.upgradeMakesUptoRow.laid) (((Rows.OpenSpec.upto Rows.upgradeMakesSpec).at F).post enc Tryz.prog Tryz.f6 false true false false) := by
  refine returnsInHanded_of_row (C := Tryz.checked) (s := Rows.OpenSpec.upto Rows.upgradeMakesSpec) own started (by kernel_rfl) Tryz.func6
    (witness_row_atRef (enc := enc) (C := Tryz.checked) false (laidWorld os) #[(.agg #[.int .u32 0, .slice none 0 0] : Value), (.agg #[.int .u64 0, .slice none 0 0] : Value)] rfl (by kernel_rfl) (by kernel_rfl) (by kernel_rfl) (witness_makes os enc)) ?_
  intro W base args ds gs before hval0 hW _ hcond _ hL _ _
  have hval : ∀ (j : Nat) t v, Tryz.f6.params[j]? = some t → args[j]? = some v → Value.okWide Tryz.prog W .any base t v := hval0
  have hW' := hW
  obtain ⟨p, q, hA0, hV0, rfl, _, _⟩ := hW
  have hA : DataW.TrodAll enc Tryz.prog W 0 (fun _ => true) true Tryz.f6.params.toList args.toList ds p := hA0
  rw [Tryz.params6] at hA hval
  obtain ⟨v0, vs0, d0, ds0, p0, q0, hargs, rfl, rfl, h0, r0⟩ := trodAll_cons hA
  obtain ⟨v1, vs1, d1, ds1, p1, q1, rfl, rfl, rfl, h1, r1⟩ := trodAll_cons r0
  obtain ⟨rfl, rfl, rfl⟩ := trodAll_nil r1
  obtain rfl : args = #[v0, v1] := by cases args; simp_all
  obtain ⟨rfl, rfl⟩ := trodVars_none hV0
  have hk : Rows.uptoSmall H ([d0, d1] ++ []) = true := hcond _ rfl
  have hk2 : Rows.uptoBulkAll ([d0, d1] ++ []) ≤ 1048576 := of_decide_eq_true hk
  simp only [List.cons_append, List.nil_append, Rows.uptoBulkAll] at hk2
  obtain ⟨s0, L0, a0, c0, e0, w0, g0⟩ := K.arg_st1 (hval 0 63 v0 rfl rfl) h0
  obtain ⟨l0, m0⟩ := g0.bk 1048576 (by omega)
  have lt0 := trod_low h0
  obtain ⟨s1, D1, a1, c1, e1, w1, g1⟩ := K.arg_st2 (hval 1 66 v1 rfl rfl) h1
  obtain ⟨l1, m1⟩ := g1.bk 1048576 (by omega)
  have k1 : (K.pods2 D1).length ≤ 1048576 := by rw [K.pods2_length]; exact l1
  have n1 : ∀ p ∈ K.pods2 D1, p.Sm := fun p hp => by
    obtain ⟨m, hm, rfl⟩ := List.mem_map.1 hp
    exact m1 m hm
  rw [← K.pods2_length D1] at e1
  have lt1 := trod_low h1
  subst e0
  subst e1
  refine (K.makes_any s0 a0 L0 c0 s1 a1 (K.pods2 D1) c1 W w0 ⟨D1, rfl, w1⟩ (utf8_tabs_makes hL) l0 m0 g0.s0 g0.s1 k1 n1 g1.s0 g1.s1).mono ?_
  rintro e W' ⟨rfl, hg⟩
  have e1 : ((Rows.OpenSpec.upto Rows.upgradeMakesSpec).at F).fn H ([d0, d1] ++ []) = { results := [.lit (.bool true)], args := [d0, d1] } := rfl
  refine ⟨_, rfl, _, _, _, [], p0 ++ (p1 ++ []), [], hW', ?_, ?_, ?_, hg.frame _, fun h => by cases h⟩
  · rw [e1]; exact trodAll_mk1 (shut_bool Tryz.underlying4 _)
  · rw [e1]; exact trodAll_cons_mk (Below.trod laidOut (by kernel_rfl) (of_decide_eq_true (by kernel_rfl)) h0 hg lt0) (trodAll_cons_mk (Below.trod laidOut (by kernel_rfl) (of_decide_eq_true (by kernel_rfl)) h1 hg lt1) trodAll_mk0)
  · rw [e1]; rfl
theorem row_makes : Rows.UpgradeMakesUptoSaid :=
  OpenClaim.holds_of_cond 6 Tryz.f6 rfl rfl rfl rfl rfl rfl rfl ⟨rfl, rfl, rfl, rfl, rfl⟩ rfl rfl rfl rfl rfl (by kernel_rfl) Tryz.func6 (by kernel_rfl)
    (of_decide_eq_true (by kernel_rfl)) (by unfold Func.isWrapper; first | (rw [if_neg (of_decide_eq_false (by kernel_rfl))]; exact ⟨rfl, rfl⟩) | (rw [if_pos (by decide +kernel)]; kernel_rfl))
    (fun os started H enc _ F0 => by rw [OpenClaim.pre_eq_preRow]; exact lifted_makes os started H enc F0)
theorem plain_makes (f : FuncId) (fn : Func) (hf : Tryz.pinned.checked.prog.funcNamed "bosun/bosunlaw20.UpgradeMakes" = some f) (hfn : Tryz.pinned.checked.prog.funcs[f]? = some fn) :
    false = Tryz.pinned.checked.prog.looks [] ∧ ∀ (j : Nat) t, fn.params[j]? = some t → Tryz.pinned.checked.prog.wantsStandIn t = false := by
  obtain rfl : f = 6 := Option.some.inj ((show Tryz.prog.funcNamed "bosun/bosunlaw20.UpgradeMakes" = some 6 by kernel_rfl).symm.trans hf) |>.symm
  obtain rfl : fn = Tryz.f6 := (Option.some.inj (Tryz.func6.symm.trans hfn)).symm
  refine ⟨by kernel_rfl, fun j t ht => ?_⟩
  rw [Tryz.params6] at ht
  have h3 : t = 63 ∨ t = 66 := by
    rcases j with _ | _ | j
    · exact .inl (by simpa using ht.symm)
    · exact .inr (by simpa using ht.symm)
    · simp at ht
  rcases h3 with rfl | rfl
  · exact (show Tryz.prog.wantsStandIn 63 = false by kernel_rfl)
  · exact (show Tryz.prog.wantsStandIn 66 = false by kernel_rfl)
theorem upgrademakes : Rows.UpgradeMakesUptoCardSaid :=
  Claim7.holds_tied_plain_at .later [] _ _ _ _ row_makes (fun _ h => by cases h) (by kernel_rfl) (fun _ h => by cases h) upgradeMakesUpto_row_tie rfl ⟨rfl, rfl⟩ (by kernel_rfl) rfl plain_makes (by kernel_rfl)
end Go.Proofs.YtldncgelghcjeaaGreatDoor
