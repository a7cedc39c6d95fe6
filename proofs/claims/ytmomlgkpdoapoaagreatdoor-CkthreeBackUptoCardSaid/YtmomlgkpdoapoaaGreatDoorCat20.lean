/-
  The document's Decode for version 3, walked (printed by genrdec3.py.txt).
-/
import Derived.Test.YtmomlgkpdoapoaaGreatDoorCat17
set_option linter.unusedSimpArgs false
set_option linter.unusedVariables false
namespace Go.Proofs.YtmomlgkpdoapoaaGreatDoor.K
open Go.ChangeShapes Go.WideShapes Go.ChangeAt Go.RowKit
set_option maxRecDepth 100000

set_option maxHeartbeats 16000000 in
theorem rdecode3_any (b : ByteArray) (w : World) (hb : b.size ≤ maxLen) : Calls Tryz.prog 20 #[.string b] w (DecIs3 b w) := by
  obtain ⟨s1, s2, s3, e1, e2, e3, q, n, L, hD⟩ := dec3T_ex b
  obtain ⟨t2, f2, N0, htk⟩ : ∃ t2 f2 N0, takeT s1 e1 2 = (t2, f2, N0) := ⟨_, _, _, rfl⟩
  have hN0 : 0 ≤ N0 := by
    have := (take_val s1 e1 2).1
    rw [show ((2 : Nat) : Int) = 2 from rfl, htk] at this
    exact this
  obtain ⟨⟨hq0, hq1⟩, hn0, hn1⟩ := hD.vals
  have HEQ : Hid (dec3 b = if endT s3 e3 ≠ 0 then (endT s3 e3, 0, []) else if chk3 L ≠ 0 then (chk3 L, 0, []) else (0, q, L)) := by have := dec3_eq hD; rw [dec3E] at this; exact this
  have HTK := Lib.hid htk
  have H1 := Lib.hid hD.h1
  have HUP : Hid ((if 1024 < N0 then (t2, 18, 0) else (t2, f2, N0)) = (s2, e2, n)) := by
    have := hD.h2
    unfold upT at this
    rw [htk] at this
    exact this
  have H3 := Lib.hid hD.h3
  have HLE := Lib.hid hD.le
  have HZ := Lib.hid (fun h => hD.zero h)
  have HFT : Hid (∀ p ∈ L, P3Fit p) := fun p hp => hD.fit.1 p hp
  clear hD htk
  unfold DecIs3
  generalize dec3 b = R at *
  have ht0 : ((w.alloc (.cells #[.int .u64 0, .slice none 0 0] 30)).alloc (.cells #[.string b, .int .i64 0] 111)).heap[w.heap.size + 1]? = some (.cells #[.string b, .int .i64 0] 111) := by
    have := at_new (w.alloc (.cells #[.int .u64 0, .slice none 0 0] 30)) (.cells #[.string b, .int .i64 0] 111)
    rw [World.size_alloc] at this
    exact this
  have HA := Lib.hid (at_alloc (p := .cells #[.string b, .int .i64 0] 111) (at_new w (.cells #[.int .u64 0, .slice none 0 0] 30)))
  have HF0 := Lib.hid (((Fresh.refl w).alloc (.cells #[.int .u64 0, .slice none 0 0] 30)).alloc (.cells #[.string b, .int .i64 0] 111))
  have HT0 := Lib.hid ht0
  clear ht0
  go_enter Tryz.func20, Tryz.ntmps20
  go_wp2_with (fail)
  generalize (w.alloc (.cells #[.int .u64 0, .slice none 0 0] 30)).alloc (.cells #[.string b, .int .i64 0] 111) = W0 at *
  obtain ⟨z, hz⟩ : ∃ z, z = w.heap.size := ⟨_, rfl⟩
  have HZW := Lib.hid hz
  rw [← hz] at HA HT0 ⊢
  clear hz
  refine (rtake_at _ hb H1.out).mono ?_
  rintro r w1 ⟨rfl, hf1⟩
  have HA1 := Lib.hid (hf1.at HA.out)
  have HF1 := Lib.hid (HF0.out.trans hf1)
  have ht1 := hf1.at HT0.out
  have c0 := cell_of_at ht1 (i := 0) rfl
  have c1 := cell_of_at ht1 (i := 1) rfl
  have f0 := frozen_of_at ht1 0
  have f1 := frozen_of_at ht1 1
  have HT1 := Lib.hid ht1
  clear hf1 ht1 HA HF0 HT0
  go_wp2_with (fail)
  have ht2 : ((w1.setCell ⟨z + 1, 0, none⟩ (.string s1)).setCell ⟨z + 1, 1, none⟩ (.int .i64 e1)).heap[z + 1]? = some (.cells #[.string s1, .int .i64 e1] 111) := at_set (at_set HT1.out 0 _) 1 _
  have HA2 := Lib.hid (at_off (at_off HA1.out (show z ≠ z + 1 by omega) (i := 0) (.string s1)) (show z ≠ z + 1 by omega) (i := 1) (.int .i64 e1))
  have HF2 := Lib.hid ((HF1.out.setCell (p := ⟨z + 1, 0, none⟩) (by show w.heap.size ≤ z + 1; have := HZW.out; omega) (.string s1)).setCell (p := ⟨z + 1, 1, none⟩) (by show w.heap.size ≤ z + 1; have := HZW.out; omega) (.int .i64 e1))
  have HT2 := Lib.hid ht2
  clear ht2 c0 c1 f0 f1 HA1 HF1 HT1
  generalize (w1.setCell ⟨z + 1, 0, none⟩ (.string s1)).setCell ⟨z + 1, 1, none⟩ (.int .i64 e1) = W2 at *
  refine (rtake_at _ (Nat.le_trans HLE.out.1 hb) HTK.out).mono ?_
  rintro r w3 ⟨rfl, hf3⟩
  have HA3 := Lib.hid (hf3.at HA2.out)
  have HF3 := Lib.hid (HF2.out.trans hf3)
  have ht3 := hf3.at HT2.out
  have c0 := cell_of_at ht3 (i := 0) rfl
  have c1 := cell_of_at ht3 (i := 1) rfl
  have f0 := frozen_of_at ht3 0
  have f1 := frozen_of_at ht3 1
  have HT3 := Lib.hid ht3
  clear hf3 ht3 HA2 HF2 HT2
  have ht4 : ((w3.setCell ⟨z + 1, 0, none⟩ (.string t2)).setCell ⟨z + 1, 1, none⟩ (.int .i64 f2)).heap[z + 1]? = some (.cells #[.string t2, .int .i64 f2] 111) := at_set (at_set HT3.out 0 _) 1 _
  have HA4 := Lib.hid (at_off (at_off HA3.out (show z ≠ z + 1 by omega) (i := 0) (.string t2)) (show z ≠ z + 1 by omega) (i := 1) (.int .i64 f2))
  have HF4 := Lib.hid ((HF3.out.setCell (p := ⟨z + 1, 0, none⟩) (by show w.heap.size ≤ z + 1; have := HZW.out; omega) (.string t2)).setCell (p := ⟨z + 1, 1, none⟩) (by show w.heap.size ≤ z + 1; have := HZW.out; omega) (.int .i64 f2))
  have HT4 := Lib.hid ht4
  have q0 := cell_of_at HA4.out (i := 0) rfl
  have q1 := cell_of_at HA4.out (i := 1) rfl
  have g0 := frozen_of_at HA4.out 0
  have g1 := frozen_of_at HA4.out 1
  clear ht4
  by_cases hm : 1024 < N0
  · have HR : Hid (R = (18, 0, [])) := by
      have h1 := HUP.out
      rw [if_pos hm] at h1
      simp only [Prod.mk.injEq] at h1
      obtain ⟨rfl, rfl, rfl⟩ := h1
      have h3 : (t2, (18 : Int), ([] : List P3)) = (s3, e3, L) := H3.out
      simp only [Prod.mk.injEq] at h3
      obtain ⟨rfl, rfl, rfl⟩ := h3
      have he : endT t2 18 = 18 := by simp [endT]
      rw [Hid, HEQ.out, he, if_pos (by decide)]
    clear HEQ
    go_wp2
    all_goals try (exfalso; omega)
    refine bodyPost_ret (v := .tuple #[st3 0 none 0 0, .int .i64 18]) (by simp [results, Tryz.results20, go_sem, st3, *]) rfl ⟨none, 0, [], ?_, ?_, Row3.nil _ _, ?_⟩
    · rw [HR.out]; rfl
    · rw [HR.out]; rfl
    · exact (HF4.out.setCell (p := ⟨z, 0, none⟩) (by show w.heap.size ≤ z; rw [HZW.out]; exact Nat.le_refl _) _).setCell (p := ⟨z, 1, none⟩) (by show w.heap.size ≤ z; rw [HZW.out]; exact Nat.le_refl _) _
  obtain ⟨r1, r2, r3⟩ : t2 = s2 ∧ f2 = e2 ∧ N0 = n := by
    have h1 := HUP.out
    rw [if_neg hm] at h1
    simpa using h1
  subst r1 r2 r3
  clear HUP
  obtain ⟨N, rfl⟩ := Int.eq_ofNat_of_zero_le hn0
  have hN : N ≤ 1024 := by omega
  clear hm hn0 hn1 hN0
  have hwn : wrap64 (N : Int) = (N : Int) := by unfold wrap64; omega
  go_wp2
  all_goals try (exfalso; omega)
  clear q0 q1 g0 g1 c0 c1 f0 f1
  obtain ⟨y, hy⟩ : ∃ y, y = w3.heap.size := ⟨_, rfl⟩
  have hDS : DS3 w (((w3.setCell ⟨z + 1, 0, none⟩ (.string t2)).setCell ⟨z + 1, 1, none⟩ (.int .i64 f2)).alloc (.cells #[.int .u64 q, .slice none 0 0] 30)) z y t2 f2 q none 0 0 [] := by
    have hsz : ((w3.setCell ⟨z + 1, 0, none⟩ (.string t2)).setCell ⟨z + 1, 1, none⟩ (.int .i64 f2)).heap.size = y := by rw [hy]; simp
    refine ⟨HZW.out, ?_, at_alloc HA4.out, at_alloc HT4.out, ?_, World.ownsRow_nil _ _ _ _, by simp, HF4.out.alloc _⟩
    · have := lt_of_at HT3.out; rw [hy]; exact this
    · have := at_new ((w3.setCell ⟨z + 1, 0, none⟩ (.string t2)).setCell ⟨z + 1, 1, none⟩ (.int .i64 f2)) (.cells #[.int .u64 q, .slice none 0 0] 30)
      rw [hsz] at this; exact this
  rw [← hy]
  clear hy
  have HDS := Lib.hid hDS
  clear hDS HA4 HF4 HT4 HA3 HF3 HT3
  generalize ((w3.setCell ⟨z + 1, 0, none⟩ (.string t2)).setCell ⟨z + 1, 1, none⟩ (.int .i64 f2)).alloc (.cells #[.int .u64 q, .slice none 0 0] 30) = V0 at *
  have HS2 : Hid (t2.size ≤ maxLen) := Nat.le_trans HLE.out.2 hb
  have HZ2 : Hid (f2 ≠ 0 → N = 0) := fun h => by have := HZ.out h; omega
  have H3 : Hid (manyT pod3T N t2 f2 = (s3, e3, L)) := by have := H3.out; rw [Int.toNat_natCast] at this; exact this
  obtain ⟨i0, hi, hz0, hz1, hz2⟩ := info_parts infoRP3
  obtain ⟨i1, hj, hj0, hj1, hj2⟩ := info_parts infoRC3
  clear HTK HLE HZ H1 hb
  go_loopw [8] (fun a8 wr => ∃ (k : Nat) (s : ByteArray) (e : Int) (o : Option Addr) (c : Nat) (D : List M3) (EL : List P3), a8 = .int .i64 (k : Int) ∧ k ≤ N ∧ Hid (f2 ≠ 0 → k = 0) ∧ Hid (s.size ≤ maxLen) ∧ Hid (D.length = k) ∧ Hid (e = 0 → EL = pods3 D) ∧ Hid (manyT pod3T N t2 f2 = aheadM EL (manyT pod3T (N - k) s e)) ∧ Hid (DS3 w wr z y s e q o k c D)) (fun a8 _ => N - (intOf a8).toNat)
  case atStart => exact ⟨0, t2, f2, none, 0, [], [], rfl, Nat.zero_le _, fun _ => rfl, HS2.out, rfl, fun _ => rfl, rfl, HDS.out⟩
  case round =>
  clear HDS HS2
  obtain ⟨k, s, e, o, c, D, EL, rfl, hk, HE0, HS, HD, HEL, HE, HDS⟩ := hrel
  obtain ⟨c0, c1, f0, f1⟩ := HDS.out.tc
  by_cases hend : k < N ∧ e = 0
  case pos =>
    obtain ⟨hlt, rfl⟩ := hend
    obtain ⟨s1', s2', s3', s4, s5, s6, s7, s8, e1', e2', e3', e4, e5, e6, e7, e8, mm, pp, hT⟩ := pod3T_ex s 0
    obtain ⟨hm0, hm1⟩ := hT.num
    have hfit := hT.fit
    have HST := Lib.hid (HE.out.trans (manyT_step hlt (pod3T_eq hT) EL))
    have HL : Hid (s1'.size ≤ maxLen ∧ s2'.size ≤ maxLen ∧ s3'.size ≤ maxLen ∧ s4.size ≤ maxLen ∧ s5.size ≤ maxLen ∧ s6.size ≤ maxLen ∧ s7.size ≤ maxLen ∧ s8.size ≤ maxLen) := by have := hT.le; have := HS.out; rw [Hid]; omega
    obtain ⟨x1, x2, x3, v, g, hb, CL⟩ := pp
    obtain ⟨t7, f7, M0, htk⟩ : ∃ t7 f7 M0, takeT s6 e6 1 = (t7, f7, M0) := ⟨_, _, _, rfl⟩
    have hM0 : 0 ≤ M0 := by
      have := (take_val s6 e6 1).1
      rw [show ((1 : Nat) : Int) = 1 from rfl, htk] at this
      exact this
    have HTK := Lib.hid htk
    have HTT := Lib.hid hT
    have H1' : Hid (textT s 0 = (s1', e1', x1)) := hT.h1
    have H2' : Hid (textT s1' e1' = (s2', e2', x2)) := hT.h2
    have H3' : Hid (textT s2' e2' = (s3', e3', x3)) := hT.h3
    have H4' : Hid (takeT s3' e3' 1 = (s4, e4, v)) := hT.h4
    have H5' : Hid (takeT s4 e4 2 = (s5, e5, g)) := hT.h5
    have H6' : Hid (flagT s5 e5 = (s6, e6, hb)) := hT.h6
    have H7' := Lib.hid hT.h7
    have H8' : Hid (manyT ct3T mm.toNat s7 e7 = (s8, e8, CL)) := hT.h8
    have HWV : Hid (wrap64 v = v) := by have := hfit.r0; have := hfit.r1; dsimp only at *; rw [Hid]; unfold wrap64; omega
    have HWG : Hid (wrap64 g = g) := by have := hfit.g0; have := hfit.g1; dsimp only at *; rw [Hid]; unfold wrap64; omega
    have HDP := Lib.hid HDS.out.pod
    have hzl := lt_of_at HDS.out.t
    have HELP := Lib.hid (HEL.out rfl)
    clear hT HE htk HEL hfit
    go_wp2_with (fail)
    all_goals try (exfalso; omega)
    clear hwn
    generalize wr.alloc (.cells #[.string ⟨#[]⟩, .string ⟨#[]⟩, .string ⟨#[]⟩, .int .i64 0, .int .i64 0, .bool false, .slice none 0 0] 48) = V1 at *
    obtain ⟨pb, hpb⟩ : ∃ pb, pb = wr.heap.size := ⟨_, rfl⟩
    rw [← hpb] at HDP ⊢
    clear hpb c0 c1 f0 f1 hzl
    have hn1 : ¬ z + 1 = pb := by have := HDP.out.h1; have := HDP.out.h2; omega
    have hn2 : ¬ pb = z + 1 := fun h => hn1 h.symm
    refine (rtext_at _ (HS.out) H1'.out).mono ?_
    rintro r v0 ⟨rfl, hf⟩
    have HDP := Lib.hid (HDP.out.fresh hf)
    obtain ⟨c0, c1, f0, f1⟩ := HDP.out.tc
    obtain ⟨⟨p0, p1, p2, p3, p4, p5, p6⟩, pf⟩ := HDP.out.pc7
    have g0 := pf 0
    have g1 := pf 1
    have g2 := pf 2
    have g3 := pf 3
    have g4 := pf 4
    have g5 := pf 5
    have g6 := pf 6
    clear pf
    clear hf
    go_wp2_with (fail)
    have HDP : Hid (DP3 w (((v0.setCell ⟨z + 1, 0, none⟩ (.string s1')).setCell ⟨z + 1, 1, none⟩ (.int .i64 e1')).setCell ⟨pb, 0, none⟩ (.string x1)) z y pb s1' e1' q o k c D #[.string x1, .string ⟨#[]⟩, .string ⟨#[]⟩, .int .i64 0, .int .i64 0, .bool false, .slice none 0 0] none 0 0 []) := (HDP.out.setT s1' e1').setP 0 (.string x1)
    clear c0 c1 f0 f1 p0 p1 p2 p3 p4 p5 p6 g0 g1 g2 g3 g4 g5 g6
    generalize ((v0.setCell ⟨z + 1, 0, none⟩ (.string s1')).setCell ⟨z + 1, 1, none⟩ (.int .i64 e1')).setCell ⟨pb, 0, none⟩ (.string x1) = U0 at *
    refine (rtext_at _ (HL.out.1) H2'.out).mono ?_
    rintro r v1 ⟨rfl, hf⟩
    have HDP := Lib.hid (HDP.out.fresh hf)
    obtain ⟨c0, c1, f0, f1⟩ := HDP.out.tc
    obtain ⟨⟨p0, p1, p2, p3, p4, p5, p6⟩, pf⟩ := HDP.out.pc7
    have g0 := pf 0
    have g1 := pf 1
    have g2 := pf 2
    have g3 := pf 3
    have g4 := pf 4
    have g5 := pf 5
    have g6 := pf 6
    clear pf
    clear hf
    go_wp2_with (fail)
    have HDP : Hid (DP3 w (((v1.setCell ⟨z + 1, 0, none⟩ (.string s2')).setCell ⟨z + 1, 1, none⟩ (.int .i64 e2')).setCell ⟨pb, 1, none⟩ (.string x2)) z y pb s2' e2' q o k c D #[.string x1, .string x2, .string ⟨#[]⟩, .int .i64 0, .int .i64 0, .bool false, .slice none 0 0] none 0 0 []) := (HDP.out.setT s2' e2').setP 1 (.string x2)
    clear c0 c1 f0 f1 p0 p1 p2 p3 p4 p5 p6 g0 g1 g2 g3 g4 g5 g6
    generalize ((v1.setCell ⟨z + 1, 0, none⟩ (.string s2')).setCell ⟨z + 1, 1, none⟩ (.int .i64 e2')).setCell ⟨pb, 1, none⟩ (.string x2) = U1 at *
    refine (rtext_at _ (HL.out.2.1) H3'.out).mono ?_
    rintro r v2 ⟨rfl, hf⟩
    have HDP := Lib.hid (HDP.out.fresh hf)
    obtain ⟨c0, c1, f0, f1⟩ := HDP.out.tc
    obtain ⟨⟨p0, p1, p2, p3, p4, p5, p6⟩, pf⟩ := HDP.out.pc7
    have g0 := pf 0
    have g1 := pf 1
    have g2 := pf 2
    have g3 := pf 3
    have g4 := pf 4
    have g5 := pf 5
    have g6 := pf 6
    clear pf
    clear hf
    go_wp2_with (fail)
    have HDP : Hid (DP3 w (((v2.setCell ⟨z + 1, 0, none⟩ (.string s3')).setCell ⟨z + 1, 1, none⟩ (.int .i64 e3')).setCell ⟨pb, 2, none⟩ (.string x3)) z y pb s3' e3' q o k c D #[.string x1, .string x2, .string x3, .int .i64 0, .int .i64 0, .bool false, .slice none 0 0] none 0 0 []) := (HDP.out.setT s3' e3').setP 2 (.string x3)
    clear c0 c1 f0 f1 p0 p1 p2 p3 p4 p5 p6 g0 g1 g2 g3 g4 g5 g6
    generalize ((v2.setCell ⟨z + 1, 0, none⟩ (.string s3')).setCell ⟨z + 1, 1, none⟩ (.int .i64 e3')).setCell ⟨pb, 2, none⟩ (.string x3) = U2 at *
    refine (rtake_at _ (HL.out.2.2.1) H4'.out).mono ?_
    rintro r v3 ⟨rfl, hf⟩
    have HDP := Lib.hid (HDP.out.fresh hf)
    obtain ⟨c0, c1, f0, f1⟩ := HDP.out.tc
    obtain ⟨⟨p0, p1, p2, p3, p4, p5, p6⟩, pf⟩ := HDP.out.pc7
    have g0 := pf 0
    have g1 := pf 1
    have g2 := pf 2
    have g3 := pf 3
    have g4 := pf 4
    have g5 := pf 5
    have g6 := pf 6
    clear pf
    clear hf
    have hwx := HWV.out
    go_wp2_with (fail)
    clear hwx
    have HDP : Hid (DP3 w (((v3.setCell ⟨z + 1, 0, none⟩ (.string s4)).setCell ⟨z + 1, 1, none⟩ (.int .i64 e4)).setCell ⟨pb, 3, none⟩ (.int .i64 v)) z y pb s4 e4 q o k c D #[.string x1, .string x2, .string x3, .int .i64 v, .int .i64 0, .bool false, .slice none 0 0] none 0 0 []) := (HDP.out.setT s4 e4).setP 3 (.int .i64 v)
    clear c0 c1 f0 f1 p0 p1 p2 p3 p4 p5 p6 g0 g1 g2 g3 g4 g5 g6
    generalize ((v3.setCell ⟨z + 1, 0, none⟩ (.string s4)).setCell ⟨z + 1, 1, none⟩ (.int .i64 e4)).setCell ⟨pb, 3, none⟩ (.int .i64 v) = U3 at *
    refine (rtake_at _ (HL.out.2.2.2.1) H5'.out).mono ?_
    rintro r v4 ⟨rfl, hf⟩
    have HDP := Lib.hid (HDP.out.fresh hf)
    obtain ⟨c0, c1, f0, f1⟩ := HDP.out.tc
    obtain ⟨⟨p0, p1, p2, p3, p4, p5, p6⟩, pf⟩ := HDP.out.pc7
    have g0 := pf 0
    have g1 := pf 1
    have g2 := pf 2
    have g3 := pf 3
    have g4 := pf 4
    have g5 := pf 5
    have g6 := pf 6
    clear pf
    clear hf
    have hwx := HWG.out
    go_wp2_with (fail)
    clear hwx
    have HDP : Hid (DP3 w (((v4.setCell ⟨z + 1, 0, none⟩ (.string s5)).setCell ⟨z + 1, 1, none⟩ (.int .i64 e5)).setCell ⟨pb, 4, none⟩ (.int .i64 g)) z y pb s5 e5 q o k c D #[.string x1, .string x2, .string x3, .int .i64 v, .int .i64 g, .bool false, .slice none 0 0] none 0 0 []) := (HDP.out.setT s5 e5).setP 4 (.int .i64 g)
    clear c0 c1 f0 f1 p0 p1 p2 p3 p4 p5 p6 g0 g1 g2 g3 g4 g5 g6
    generalize ((v4.setCell ⟨z + 1, 0, none⟩ (.string s5)).setCell ⟨z + 1, 1, none⟩ (.int .i64 e5)).setCell ⟨pb, 4, none⟩ (.int .i64 g) = U4 at *
    refine (rflag_at _ (HL.out.2.2.2.2.1) H6'.out).mono ?_
    rintro r v5 ⟨rfl, hf⟩
    have HDP := Lib.hid (HDP.out.fresh hf)
    obtain ⟨c0, c1, f0, f1⟩ := HDP.out.tc
    obtain ⟨⟨p0, p1, p2, p3, p4, p5, p6⟩, pf⟩ := HDP.out.pc7
    have g0 := pf 0
    have g1 := pf 1
    have g2 := pf 2
    have g3 := pf 3
    have g4 := pf 4
    have g5 := pf 5
    have g6 := pf 6
    clear pf
    clear hf
    go_wp2_with (fail)
    have HDP : Hid (DP3 w (((v5.setCell ⟨z + 1, 0, none⟩ (.string s6)).setCell ⟨z + 1, 1, none⟩ (.int .i64 e6)).setCell ⟨pb, 5, none⟩ (.bool hb)) z y pb s6 e6 q o k c D #[.string x1, .string x2, .string x3, .int .i64 v, .int .i64 g, .bool hb, .slice none 0 0] none 0 0 []) := (HDP.out.setT s6 e6).setP 5 (.bool hb)
    clear c0 c1 f0 f1 p0 p1 p2 p3 p4 p5 p6 g0 g1 g2 g3 g4 g5 g6
    generalize ((v5.setCell ⟨z + 1, 0, none⟩ (.string s6)).setCell ⟨z + 1, 1, none⟩ (.int .i64 e6)).setCell ⟨pb, 5, none⟩ (.bool hb) = U5 at *
    refine (rtake_at _ HL.out.2.2.2.2.2.1 HTK.out).mono ?_
    rintro r V6 ⟨rfl, hf⟩
    have HDP := Lib.hid (HDP.out.fresh hf)
    obtain ⟨c0, c1, f0, f1⟩ := HDP.out.tc
    obtain ⟨⟨p0, p1, p2, p3, p4, p5, p6⟩, pf⟩ := HDP.out.pc7
    have g0 := pf 0
    have g1 := pf 1
    have g2 := pf 2
    have g3 := pf 3
    have g4 := pf 4
    have g5 := pf 5
    have g6 := pf 6
    clear pf
    clear hf
    have HDQ : Hid (DP3 w ((V6.setCell ⟨z + 1, 0, none⟩ (.string t7)).setCell ⟨z + 1, 1, none⟩ (.int .i64 f7)) z y pb t7 f7 q o k c D #[.string x1, .string x2, .string x3, .int .i64 v, .int .i64 g, .bool hb, .slice none 0 0] none 0 0 []) := HDP.out.setT t7 f7
    by_cases hm16 : 16 < M0
    case pos =>
      have HR : Hid (R = (18, 0, [])) := by
        obtain ⟨r1, r2, r3⟩ := up_full HTK.out hm16 H7'.out
        subst r1 r2 r3
        have h7 : (s7, (18 : Int), ([] : List Ct)) = (s8, e8, CL) := H8'.out
        simp only [Prod.mk.injEq] at h7
        obtain ⟨rfl, rfl, rfl⟩ := h7
        have h1 := H3.out.symm.trans HST.out
        have h2 := manyT_err pod3_keeps (N - (k + 1)) (s := s7) (e := 18) (by decide)
        simp only [aheadM, Prod.mk.injEq] at h1
        have he : endT s3 e3 = 18 := by rw [h1.1, h1.2.1, h2.1, h2.2]; simp [endT]
        rw [Hid, HEQ.out, he, if_pos (by decide)]
      have q0 := cell_of_at HDP.out.r (i := 0) rfl
      have q1 := cell_of_at HDP.out.r (i := 1) rfl
      have u0 := frozen_of_at HDP.out.r 0
      have u1 := frozen_of_at HDP.out.r 1
      have HDT := HDQ
      have hzn : ¬ z = z + 1 := by omega
      clear HEQ HST H3 HDQ
      clear p0 p1 p2 p3 p4 p5 p6 g0 g1 g2 g3 g4 g5 g6
      go_wp2
      all_goals try (exfalso; omega)
      refine bodyPost_ret (v := .tuple #[st3 0 none 0 0, .int .i64 18]) (by simp [results, Tryz.results20, go_sem, st3, *]) rfl ⟨none, 0, [], ?_, ?_, Row3.nil _ _, ?_⟩
      · rw [HR.out]; rfl
      · rw [HR.out]; rfl
      · exact (HDT.out.fr.setCell (p := ⟨z, 0, none⟩) (by show w.heap.size ≤ z; rw [HZW.out]; exact Nat.le_refl _) _).setCell (p := ⟨z, 1, none⟩) (by show w.heap.size ≤ z; rw [HZW.out]; exact Nat.le_refl _) _
    obtain ⟨r1, r2, r3⟩ := up_not HTK.out hm16 H7'.out
    subst r1 r2 r3
    clear HTK H7' hM0 hm16
    obtain ⟨M, hMM⟩ := Int.eq_ofNat_of_zero_le hm0
    have hM : M ≤ 16 := by omega
    have HMM := Lib.hid hMM
    clear hMM
    have HWM : Hid (wrap64 M0 = M0) := by rw [Hid]; unfold wrap64; omega
    have H8 : Hid (manyT ct3T M t7 f7 = (s8, e8, CL)) := by have := H8'.out; rw [HMM.out, Int.toNat_natCast] at this; exact this
    have HZM : Hid (f7 ≠ 0 → M = 0) := fun h => by have := upT_zero HTT.out.h7 h; rw [HMM.out] at this; exact Int.ofNat_eq_zero.1 this
    have HST7 : Hid (t7.size ≤ maxLen) := HL.out.2.2.2.2.2.2.1
    have HS8 : Hid (s8.size ≤ maxLen) := HL.out.2.2.2.2.2.2.2
    have HST : Hid (manyT pod3T N t2 f2 = aheadM (EL ++ [(⟨x1, ⟨x2, x3, v, g, hb, CL⟩⟩ : P3)]) (manyT pod3T (N - (k + 1)) s8 e8)) := HST.out
    clear HTT HL H1' H2' H3' H4' H5' H6' H8' HWV HWG
    go_wp2
    all_goals try (exfalso; omega)
    clear c0 c1 f0 f1 p0 p1 p2 p3 p4 p5 p6 g0 g1 g2 g3 g4 g5 g6 HDP HDS
    generalize (V6.setCell ⟨z + 1, 0, none⟩ (.string t7)).setCell ⟨z + 1, 1, none⟩ (.int .i64 f7) = V7 at *
    go_loopw [12] (fun aa wr => ∃ (j : Nat) (s : ByteArray) (e : Int) (a : Option Addr) (cc : Nat) (cs : List CM), aa = .int .i64 (j : Int) ∧ j ≤ M ∧ Hid (f7 ≠ 0 → j = 0) ∧ Hid (s.size ≤ maxLen) ∧ Hid (cs.length = j) ∧ Hid (manyT ct3T M t7 f7 = aheadM (cs.map (·.c)) (manyT ct3T (M - j) s e)) ∧ Hid (DP3 w (wr) z y pb s e q o k c D #[.string x1, .string x2, .string x3, .int .i64 v, .int .i64 g, .bool hb, .slice a j cc] a j cc cs)) (fun aa _ => M - (intOf aa).toNat)
    case atStart => exact ⟨0, t7, f7, none, 0, [], rfl, Nat.zero_le _, fun _ => rfl, HST7.out, rfl, rfl, HDQ.out⟩
    case round =>
    clear HDQ HST7
    obtain ⟨j, s, e, a, cc, cs, rfl, hjM, HJ0, HSJ, HCS, HEJ, HDP⟩ := hrel
    by_cases hend2 : j < M ∧ e = 0
    case pos =>
      obtain ⟨hjlt, rfl⟩ := hend2
      obtain ⟨u1, d1, C1, hu⟩ : ∃ u1 d1 C1, ct3T s 0 = (u1, d1, C1) := ⟨_, _, _, rfl⟩
      have HSJT := Lib.hid (HEJ.out.trans (manyT_step hjlt hu (cs.map (·.c))))
      have HU := Lib.hid hu
      have HLU : Hid (u1.size ≤ maxLen) := by have h1 := ct3_less s 0; rw [hu] at h1; have := HSJ.out; rw [Hid]; exact Nat.le_trans h1 this
      clear hu HEJ
      have hjmm : (j : Int) < M0 := by rw [HMM.out]; omega
      have hwm := HWM.out
      obtain ⟨c0, c1, f0, f1⟩ := HDP.out.tc
      obtain ⟨⟨p0, p1, p2, p3, p4, p5, p6⟩, pf⟩ := HDP.out.pc7
      have g0 := pf 0
      have g1 := pf 1
      have g2 := pf 2
      have g3 := pf 3
      have g4 := pf 4
      have g5 := pf 5
      have g6 := pf 6
      clear pf
      go_wp2_with (fail)
      all_goals clear hwm
      all_goals try (exfalso; omega)
      clear c0 c1 f0 f1 p0 p1 p2 p3 p4 p5 p6 g0 g1 g2 g3 g4 g5 g6
      refine (rcont3_any s 0 wr HSJ.out HU.out).mono ?_
      rintro r X1 ⟨hf, ⟨m, hr, hmc, hmo⟩ | ⟨s0, e0, y0, y1, o2, o3, o6, l2, k2, l3, k3, l6, k6, y4, y5, hr, hfull⟩⟩
      case inr =>
        have HDP := Lib.hid (HDP.out.fresh hf)
        clear hf
        subst hr
        have HR : Hid (R = (18, 0, [])) := by
          subst hfull
          have h7 := H8.out.symm.trans HSJT.out
          have h8 := manyT_err ct3_keeps (M - (j + 1)) (s := u1) (e := 18) (by decide)
          simp only [aheadM, Prod.mk.injEq] at h7
          have he8 : e8 = 18 := h7.2.1.trans h8.2
          have h1 := H3.out.symm.trans HST.out
          have h2 := manyT_err pod3_keeps (N - (k + 1)) (s := s8) (e := e8) (by rw [he8]; decide)
          simp only [aheadM, Prod.mk.injEq] at h1
          have he : endT s3 e3 = 18 := by rw [h1.1, h1.2.1, h2.1, h2.2, he8]; simp [endT]
          rw [Hid, HEQ.out, he, if_pos (by decide)]
        obtain ⟨_, _, hfx, _⟩ := two_boxes X1 (.cells #[.string s0, .int .i64 e0] 111) (.cells #[.string y0, .string y1, .slice o2 l2 k2, .slice o3 l3 k3, .int .i64 y4, .int .i64 y5, .slice o6 l6 k6] 83)
        have HDT := Lib.hid (HDP.out.fresh hfx)
        have q0 := cell_of_at HDT.out.r (i := 0) rfl
        have q1 := cell_of_at HDT.out.r (i := 1) rfl
        have u0 := frozen_of_at HDT.out.r 0
        have u1 := frozen_of_at HDT.out.r 1
        clear HEQ HST H3 H8 HSJT hfx HDP
        go_wp2
        all_goals try (exfalso; omega)
        generalize (X1.alloc (.cells #[.string s0, .int .i64 e0] 111)).alloc (.cells #[.string y0, .string y1, .slice o2 l2 k2, .slice o3 l3 k3, .int .i64 y4, .int .i64 y5, .slice o6 l6 k6] 83) = X at *
        refine bodyPost_ret (v := .tuple #[st3 0 none 0 0, .int .i64 18]) (by simp [results, Tryz.results20, go_sem, st3, *]) rfl ⟨none, 0, [], ?_, ?_, Row3.nil _ _, ?_⟩
        · rw [HR.out]; rfl
        · rw [HR.out]; rfl
        · exact (HDT.out.fr.setCell (p := ⟨z, 0, none⟩) (by show w.heap.size ≤ z; rw [HZW.out]; exact Nat.le_refl _) _).setCell (p := ⟨z, 1, none⟩) (by show w.heap.size ≤ z; rw [HZW.out]; exact Nat.le_refl _) _
      rw [CM.val] at hr
      subst hr
      have HMC := Lib.hid hmc
      have HMO := Lib.hid (hmo.base (B' := z) (by have := lt_of_at HDP.out.r; omega))
      have HDP := Lib.hid (HDP.out.fresh hf)
      clear hf hmc hmo
      obtain ⟨hxt, hxc, hfx, hxs⟩ := two_boxes X1 (.cells #[.string u1, .int .i64 d1] 111) (.cells #[.string m.c.name, .string m.c.image, .slice m.ca m.c.cmd.length m.cc, .slice m.pa m.c.ports.length m.pc, .int .i64 m.c.cpu, .int .i64 m.c.mem, .slice m.ea m.c.env.length m.ec] 83)
      have hzx : z + 1 < X1.heap.size := lt_of_at HDP.out.t
      have hpx : pb < X1.heap.size := lt_of_at HDP.out.p
      have HDX := Lib.hid (HDP.out.fresh hfx)
      have t0 := cell_of_at hxt (i := 0) rfl
      have t1 := cell_of_at hxt (i := 1) rfl
      have x0 := cell_of_at hxc (i := 0) rfl
      have x1' := cell_of_at hxc (i := 1) rfl
      have x2' := cell_of_at hxc (i := 2) rfl
      have x3' := cell_of_at hxc (i := 3) rfl
      have x4' := cell_of_at hxc (i := 4) rfl
      have x5' := cell_of_at hxc (i := 5) rfl
      have x6' := cell_of_at hxc (i := 6) rfl
      clear hfx hxt hxc hxs
      obtain ⟨c0, c1, f0, f1⟩ := HDX.out.tc
      obtain ⟨⟨p0, p1, p2, p3, p4, p5, p6⟩, pf⟩ := HDX.out.pc7
      have g0 := pf 0
      have g1 := pf 1
      have g2 := pf 2
      have g3 := pf 3
      have g4 := pf 4
      have g5 := pf 5
      have g6 := pf 6
      clear pf
      have k1 : ¬ z + 1 = X1.heap.size + 1 := by omega
      have k2 : ¬ X1.heap.size + 1 = z + 1 := by omega
      obtain ⟨hde, hmo, hsz⟩ := HDP.out.taken (s' := u1) (e' := d1) HMO.out (.cells #[.string u1, .int .i64 d1] 111) (.cells #[.string m.c.name, .string m.c.image, .slice m.ca m.c.cmd.length m.cc, .slice m.pa m.c.ports.length m.pc, .int .i64 m.c.cpu, .int .i64 m.c.mem, .slice m.ea m.c.env.length m.ec] 83)
      have HDE := Lib.hid hde
      have HMY := Lib.hid hmo
      have HSZ := Lib.hid hsz
      have HN : Hid (∀ j u, [.string m.c.name, .string m.c.image, .slice m.ca m.c.cmd.length m.cc, .slice m.pa m.c.ports.length m.pc, .int .i64 m.c.cpu, .int .i64 m.c.mem, .slice m.ea m.c.env.length m.ec][j]? = some u → (((((X1.alloc (.cells #[.string u1, .int .i64 d1] 111)).alloc (.cells #[.string m.c.name, .string m.c.image, .slice m.ca m.c.cmd.length m.cc, .slice m.pa m.c.ports.length m.pc, .int .i64 m.c.cpu, .int .i64 m.c.mem, .slice m.ea m.c.env.length m.ec] 83)).setCell ⟨z + 1, 0, none⟩ (.string u1)).setCell ⟨z + 1, 1, none⟩ (.int .i64 d1)).alloc (.cells #[.string m.c.name, .string m.c.image, .slice m.ca m.c.cmd.length m.cc, .slice m.pa m.c.ports.length m.pc, .int .i64 m.c.cpu, .int .i64 m.c.mem, .slice m.ea m.c.env.length m.ec] 83)).cell? ((⟨X1.heap.size + 2, 0, none⟩ : Addr).add j) = some u) := by
        have := news7 ((((X1.alloc (.cells #[.string u1, .int .i64 d1] 111)).alloc (.cells #[.string m.c.name, .string m.c.image, .slice m.ca m.c.cmd.length m.cc, .slice m.pa m.c.ports.length m.pc, .int .i64 m.c.cpu, .int .i64 m.c.mem, .slice m.ea m.c.env.length m.ec] 83)).setCell ⟨z + 1, 0, none⟩ (.string u1)).setCell ⟨z + 1, 1, none⟩ (.int .i64 d1)) 83 [.string m.c.name, .string m.c.image, .slice m.ca m.c.cmd.length m.cc, .slice m.pa m.c.ports.length m.pc, .int .i64 m.c.cpu, .int .i64 m.c.mem, .slice m.ea m.c.env.length m.ec]
        rw [HSZ.out] at this
        exact this
      have HPS := Lib.hid hpx
      clear hde hmo hsz
      go_wp2_with (at_builtin; refine Hid.out ?_)
      refine Lib.hid ?_
      clear c0 c1 f0 f1 p0 p1 p2 p3 p4 p5 p6 g0 g1 g2 g3 g4 g5 g6 t0 t1 x0 x1' x2' x3' x4' x5' x6' hzx hpx k1 k2 HDP HDX HMO
      generalize (((X1.alloc (.cells #[.string u1, .int .i64 d1] 111)).alloc (.cells #[.string m.c.name, .string m.c.image, .slice m.ca m.c.cmd.length m.cc, .slice m.pa m.c.ports.length m.pc, .int .i64 m.c.cpu, .int .i64 m.c.mem, .slice m.ea m.c.env.length m.ec] 83)).setCell ⟨z + 1, 0, none⟩ (.string u1)).setCell ⟨z + 1, 1, none⟩ (.int .i64 d1) = X5 at *
      generalize X1.heap.size = nb at *
      have HOW : Hid ((X5.alloc (.cells #[.string m.c.name, .string m.c.image, .slice m.ca m.c.cmd.length m.cc, .slice m.pa m.c.ports.length m.pc, .int .i64 m.c.cpu, .int .i64 m.c.mem, .slice m.ea m.c.env.length m.ec] 83)).ownsRow (pb + 1) 83 7 (.slice a j cc) j (ccells cs)) := World.ownsRow.alloc HDE.out.crow _
      refine wpList_append_own _ rfl _ _ 44 rfl (pb + 1) 83 i1 (.agg #[.string ⟨#[]⟩, .string ⟨#[]⟩, .slice none 0 0, .slice none 0 0, .int .i64 0, .int .i64 0, .slice none 0 0]) 7 120 Tryz.underlying44 hj hj0 hj1 hj2 rfl (by decide) _ j _ rfl HOW.out ⟨nb + 2, 0, none⟩ 1 1 [.string m.c.name, .string m.c.image, .slice m.ca m.c.cmd.length m.cc, .slice m.pa m.c.ports.length m.pc, .int .i64 m.c.cpu, .int .i64 m.c.mem, .slice m.ea m.c.env.length m.ec] rfl rfl HN.out (by simp [Value.oneCell']) (by unfold maxLen; omega) (by omega) (by rw [World.size_alloc, HSZ.out]; have := HPS.out; omega) ?_
      intro v' X6 hown' hgrow _
      obtain ⟨g', cap', rfl⟩ := ownsRow_succ hown'
      have HDF := Lib.hid ((HDE.out.fresh ((Fresh.refl X5).alloc _)).grownC (m := m) hgrow (HMY.out.fresh ((Fresh.refl X5).alloc _)) (by rw [ccells_snoc]; exact hown'))
      clear hown' hgrow HOW HN HMY HDE

      obtain ⟨⟨p0, p1, p2, p3, p4, p5, p6⟩, pf⟩ := HDF.out.pc7
      have g0 := pf 0
      have g1 := pf 1
      have g2 := pf 2
      have g3 := pf 3
      have g4 := pf 4
      have g5 := pf 5
      have g6 := pf 6
      clear pf
      go_wp2
      have HDG : Hid (DP3 w (X6.setCell ⟨pb, 6, none⟩ (.slice (some ⟨g', 0, none⟩) (j + 1) cap')) z y pb u1 d1 q o k c D #[.string x1, .string x2, .string x3, .int .i64 v, .int .i64 g, .bool hb, .slice (some ⟨g', 0, none⟩) (j + 1) cap'] (some ⟨g', 0, none⟩) (j + 1) cap' (cs ++ [m])) := HDF.out.setP 6 _
      go_roundw
      case rel =>
        refine ⟨j + 1, u1, d1, some ⟨g', 0, none⟩, cap', cs ++ [m], by simp, by omega, fun h => absurd (HZM.out h) (by omega), HLU.out, ?_, ?_, HDG.out⟩
        · rw [Hid, List.length_append, HCS.out]; rfl
        · rw [List.map_append, List.map_singleton, HMC.out]; exact HSJT.out
      case measure => simp [intOf]; omega
    case neg =>
      have HR : Hid (s8 = s ∧ e8 = e ∧ (e = 0 → CL = cs.map (·.c) ∧ j = M)) := by
        have h1 := H8.out.symm.trans HEJ.out
        simp only [aheadM, Prod.mk.injEq] at h1
        by_cases he : e = 0
        · have hkN : j = M := by omega
          rw [hkN, Nat.sub_self] at h1
          simp only [manyT, List.append_nil] at h1
          exact ⟨h1.1, h1.2.1, fun _ => ⟨h1.2.2, hkN⟩⟩
        · have h2 := manyT_err ct3_keeps (M - j) (s := s) he
          exact ⟨h1.1.trans h2.1, h1.2.1.trans h2.2, fun h => absurd h he⟩
      obtain ⟨h3, h4, HLD⟩ := HR.out
      subst h3 h4
      have HLD := Lib.hid HLD
      clear HR H8 HEJ HJ0 HZM
      have hcase : ((j : Int) < M0 ∧ (e8 == 0) = false) ∨ ¬ (j : Int) < M0 := by
        rw [HMM.out]
        by_cases h1 : (j : Int) < (M : Int)
        · exact .inl ⟨h1, by rw [beq_eq_false_iff_ne]; exact fun h2 => hend2 ⟨by omega, h2⟩⟩
        · exact .inr h1
      obtain ⟨c0, c1, f0, f1⟩ := HDP.out.tc
      obtain ⟨⟨p0, p1, p2, p3, p4, p5, p6⟩, pf⟩ := HDP.out.pc7
      have g0 := pf 0
      have g1 := pf 1
      have g2 := pf 2
      have g3 := pf 3
      have g4 := pf 4
      have g5 := pf 5
      have g6 := pf 6
      clear pf
      have d0 := cell_of_at HDP.out.st (i := 0) rfl
      have d1 := cell_of_at HDP.out.st (i := 1) rfl
      have hy1 : ¬ y = pb := by have := HDP.out.h2; omega
      have HN := Lib.hid (news7 wr 48 [.string x1, .string x2, .string x3, .int .i64 v, .int .i64 g, .bool hb, .slice a j cc])
      have HYS : Hid (y < wr.heap.size) := lt_of_at HDP.out.st
      have HZY : Hid (z < wr.heap.size) := lt_of_at HDP.out.r
      clear hend2
      rcases hcase with ⟨hk2, ee1⟩ | hk2
      all_goals
        have hwm := HWM.out
        go_wp2_with (at_builtin; refine Hid.out ?_)
        all_goals clear hwm
        all_goals try (exfalso; omega)
        refine Lib.hid ?_
        refine wpList_append_own _ rfl _ _ 28 rfl z 48 i0 (.agg #[.string ⟨#[]⟩, .string ⟨#[]⟩, .string ⟨#[]⟩, .int .i64 0, .int .i64 0, .bool false, .slice none 0 0]) 7 96 Tryz.underlying28 hi hz0 hz1 hz2 rfl (by decide) _ k _ rfl (World.ownsRow.alloc HDP.out.row _) ⟨wr.heap.size, 0, none⟩ 1 1 [.string x1, .string x2, .string x3, .int .i64 v, .int .i64 g, .bool hb, .slice a j cc] rfl rfl HN.out (by simp [Value.oneCell']) (by unfold maxLen; omega) (by omega) (by rw [World.size_alloc]; have := HZY.out; omega) ?_
        intro v' w8 hown' hgrow _
        obtain ⟨g', cap', rfl⟩ := ownsRow_succ hown'
        have HND : Hid (DS3 w (w8.setCell ⟨y, 1, none⟩ (.slice (some ⟨g', 0, none⟩) (k + 1) cap')) z y s8 e8 q (some ⟨g', 0, none⟩) (k + 1) cap' (D ++ [(⟨x1, ⟨x2, x3, v, g, hb, a, cc, cs⟩⟩ : M3)])) :=
          (HDP.out.fresh ((Fresh.refl wr).alloc _)).grownP (m := (⟨x1, ⟨x2, x3, v, g, hb, a, cc, cs⟩⟩ : M3)) rfl rfl HCS.out.symm rfl hgrow (by rw [m3s_snoc]; dsimp only; rw [HCS.out]; exact hown')
        have hyk : w8.cell? ⟨y, 1, none⟩ = some (.slice o k c) ∧ w8.frozen? ⟨y, 1, none⟩ = false := by
          have h1 := box_kept (World.ownsRow.alloc HDP.out.row _) (at_alloc HDP.out.st) (by decide) hgrow
          exact ⟨cell_of_at h1 (i := 1) rfl, frozen_of_at h1 1⟩
        obtain ⟨k1, kf⟩ := hyk
        clear hown' hgrow d0 d1 c0 c1 f0 f1 p0 p1 p2 p3 p4 p5 p6 g0 g1 g2 g3 g4 g5 g6
        go_wp2
        go_roundw
        case rel =>
          refine ⟨k + 1, s8, e8, some ⟨g', 0, none⟩, cap', D ++ [(⟨x1, ⟨x2, x3, v, g, hb, a, cc, cs⟩⟩ : M3)], EL ++ [(⟨x1, ⟨x2, x3, v, g, hb, CL⟩⟩ : P3)], by simp, by omega, fun h => absurd (HZ2.out h) (by omega), HS8.out, ?_, fun h => ?_, HST.out, HND.out⟩
          · rw [Hid, List.length_append, HD.out]; rfl
          · rw [HELP.out, pods3_snoc, (HLD.out h).1]; rfl
        case measure => simp [intOf]; omega
  case neg =>
    have HR : Hid (s3 = s ∧ e3 = e ∧ (e = 0 → L = pods3 D ∧ k = N)) := by
      have h1 := H3.out.symm.trans HE.out
      simp only [aheadM, Prod.mk.injEq] at h1
      by_cases he : e = 0
      · have hkN : k = N := by omega
        rw [hkN, Nat.sub_self] at h1
        simp only [manyT, List.append_nil] at h1
        exact ⟨h1.1, h1.2.1, fun _ => ⟨by rw [h1.2.2]; exact HEL.out he, hkN⟩⟩
      · have h2 := manyT_err pod3_keeps (N - k) (s := s) he
        exact ⟨h1.1.trans h2.1, h1.2.1.trans h2.2, fun h => absurd h he⟩
    obtain ⟨h3, h4, HLD⟩ := HR.out
    subst h3 h4
    have HLD := Lib.hid HLD
    clear HR H3 HE HE0 HZ2 HEL
    have HEN := Lib.hid (fun W => rend_any s3 e3 W)
    have hcase : (k < N ∧ (e3 == 0) = false) ∨ ¬ k < N := by
      by_cases h1 : k < N
      · exact .inl ⟨h1, by rw [beq_eq_false_iff_ne]; exact fun h2 => hend ⟨h1, h2⟩⟩
      · exact .inr h1
    clear hend
    have HEE : Hid (endT s3 e3 = 0 → e3 = 0) := fun h => by
      unfold endT at h
      split at h
      · simp at h
      · exact h
    generalize endT s3 e3 = E at *
    by_cases hE : E = 0
    case neg =>
      have HR : Hid (R = (E, 0, [])) := by rw [Hid, HEQ.out, if_pos hE]
      have e0 : (E != 0) = true := by simpa using hE
      clear HEQ HEE HLD hE
      rcases hcase with ⟨hk2, ee1⟩ | hk2
      all_goals
        go_wp2_with (fail)
        all_goals try (exfalso; omega)
        refine (HEN.out _).mono ?_
        rintro r w5 ⟨rfl, hf⟩
        have HD5 := Lib.hid (HDS.out.fresh hf)
        have q0 := cell_of_at HD5.out.r (i := 0) rfl
        have q1 := cell_of_at HD5.out.r (i := 1) rfl
        have g0 := frozen_of_at HD5.out.r 0
        have g1 := frozen_of_at HD5.out.r 1
        go_wp2
        refine bodyPost_ret (v := .tuple #[st3 0 none 0 0, .int .i64 E]) (by simp [results, Tryz.results20, go_sem, st3, *]) rfl ⟨none, 0, [], ?_, ?_, Row3.nil _ _, ?_⟩
        · rw [HR.out]; rfl
        · rw [HR.out]; rfl
        · exact (HD5.out.fr.setCell (p := ⟨z, 0, none⟩) (by show w.heap.size ≤ z; rw [HZW.out]; exact Nat.le_refl _) _).setCell (p := ⟨z, 1, none⟩) (by show w.heap.size ≤ z; rw [HZW.out]; exact Nat.le_refl _) _
    obtain rfl := HEE.out hE
    obtain ⟨h5, h6⟩ := HLD.out rfl
    subst h6
    subst hE
    have hk2 : ¬ k < k := Nat.lt_irrefl k
    have HR1 : Hid (R = if chk3 L ≠ 0 then (chk3 L, 0, []) else (0, q, L)) := by rw [Hid, HEQ.out, if_neg (by simp)]
    have HPL := Lib.hid h5
    have HCK : Hid (∀ W W', DS3 w W z y s3 0 q o k c D → Fresh W W' → Calls Tryz.prog 9 #[.agg #[.int .u64 q, .slice o k c]] W' fun e w' => e = .returned (.int .i64 (chk3 L)) ∧ Fresh W' w') := fun W W' h f => by
      have := rcheck3_any q o D c W' (h.row3.move f) (fun m hm => (HFT.out m.p (by rw [h5]; exact List.mem_map_of_mem hm)).sml) (by rw [HD.out]; omega)
      rw [HD.out, ← h5] at this
      exact this
    clear HEQ HEE HLD hcase HFT h5
    generalize hC : chk3 L = C at *
    clear hC
    by_cases hC : C = 0
    case neg =>
      have HR : Hid (R = (C, 0, [])) := by rw [Hid, HR1.out, if_pos hC]
      have e0 : (C != 0) = true := by simpa using hC
      clear HR1 hC
      go_wp2_with (fail)
      all_goals try (exfalso; omega)
      refine (HEN.out _).mono ?_
      rintro r w5 ⟨rfl, hf⟩
      have HD5 := Lib.hid (HDS.out.fresh hf)
      have d0 := cell_of_at HD5.out.st (i := 0) rfl
      have d1 := cell_of_at HD5.out.st (i := 1) rfl
      clear hf
      go_wp2_with (fail)
      refine (HCK.out _ _ HD5.out (.refl _)).mono ?_
      rintro r w6 ⟨rfl, hf⟩
      have HD6 := Lib.hid (HD5.out.fresh hf)
      have q0 := cell_of_at HD6.out.r (i := 0) rfl
      have q1 := cell_of_at HD6.out.r (i := 1) rfl
      have g0 := frozen_of_at HD6.out.r 0
      have g1 := frozen_of_at HD6.out.r 1
      clear d0 d1 hf
      go_wp2
      refine bodyPost_ret (v := .tuple #[st3 0 none 0 0, .int .i64 C]) (by simp [results, Tryz.results20, go_sem, st3, *]) rfl ⟨none, 0, [], ?_, ?_, Row3.nil _ _, ?_⟩
      · rw [HR.out]; rfl
      · rw [HR.out]; rfl
      · exact (HD6.out.fr.setCell (p := ⟨z, 0, none⟩) (by show w.heap.size ≤ z; rw [HZW.out]; exact Nat.le_refl _) _).setCell (p := ⟨z, 1, none⟩) (by show w.heap.size ≤ z; rw [HZW.out]; exact Nat.le_refl _) _
    have HR : Hid (R = (0, q, L)) := by rw [Hid, HR1.out, if_neg (by simpa using hC)]
    subst hC
    clear HR1
    go_wp2_with (fail)
    all_goals try (exfalso; omega)
    refine (HEN.out _).mono ?_
    rintro r w5 ⟨rfl, hf⟩
    have HD5 := Lib.hid (HDS.out.fresh hf)
    have d0 := cell_of_at HD5.out.st (i := 0) rfl
    have d1 := cell_of_at HD5.out.st (i := 1) rfl
    clear hf
    go_wp2_with (fail)
    refine (HCK.out _ _ HD5.out (.refl _)).mono ?_
    rintro r w6 ⟨rfl, hf⟩
    have HD6 := Lib.hid (HD5.out.fresh hf)
    have d0 := cell_of_at HD6.out.st (i := 0) rfl
    have d1 := cell_of_at HD6.out.st (i := 1) rfl
    have q0 := cell_of_at HD6.out.r (i := 0) rfl
    have q1 := cell_of_at HD6.out.r (i := 1) rfl
    have g0 := frozen_of_at HD6.out.r 0
    have g1 := frozen_of_at HD6.out.r 1
    clear hf
    go_wp2
    refine bodyPost_ret (v := .tuple #[st3 q o k c, .int .i64 0]) (by simp [results, Tryz.results20, go_sem, st3, *]) rfl ⟨o, c, D, ?_, ?_, ?_, ?_⟩
    · rw [HR.out]; dsimp only; rw [HD.out]
    · rw [HR.out]; exact HPL.out.symm
    · exact HD6.out.doneR _ _
    · exact (HD6.out.fr.setCell (p := ⟨z, 0, none⟩) (by show w.heap.size ≤ z; rw [HZW.out]; exact Nat.le_refl _) _).setCell (p := ⟨z, 1, none⟩) (by show w.heap.size ≤ z; rw [HZW.out]; exact Nat.le_refl _) _
end Go.Proofs.YtmomlgkpdoapoaaGreatDoor.K
