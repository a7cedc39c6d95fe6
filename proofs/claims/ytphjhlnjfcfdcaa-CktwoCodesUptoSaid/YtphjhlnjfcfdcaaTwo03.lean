/-
  bosunlaw18.CktwoReads returns true, for every text: no condition.
  The document's Decode for version 2, walked (printed by genrdec2.py.txt).
  Are two states of version 2 alike, by the document? (printed by genrsame2.py.txt)
  States of version 2, by what they hold alone: the contracts, without where the rows lie.
  bosunlaw18.CktwoReads, walked.
-/
import Derived.Test.YtphjhlnjfcfdcaaTwo02
import Derived.Test.YtphjhlnjfcfdcaaKSame
import Derived.Test.YtphjhlnjfcfdcaaRows
import Derived.WalkKit
import Derived.ProofKit
import Derived.OpenShut
import Derived.ShutString
namespace Go.Proofs.Ytphjhlnjfcfdcaa
open Go.ChangeShapes Go.WideShapes Go.ChangeAt Go.RowKit
set_option maxRecDepth 100000

set_option maxHeartbeats 16000000 in
theorem rdecode2_any (b : ByteArray) (w : World) (hb : b.size ≤ maxLen) : Calls Try.prog 32 #[.string b] w (DecIs2 b w) := by
  obtain ⟨s1, s2, s3, e1, e2, e3, q, n, L, hD⟩ := dec2T_ex b
  obtain ⟨t2, f2, N0, htk⟩ : ∃ t2 f2 N0, takeT s1 e1 2 = (t2, f2, N0) := ⟨_, _, _, rfl⟩
  have hN0 : 0 ≤ N0 := by
    have := (take_val s1 e1 2).1
    rw [show ((2 : Nat) : Int) = 2 from rfl, htk] at this
    exact this
  obtain ⟨⟨hq0, hq1⟩, hn0, hn1⟩ := hD.vals
  have HEQ : Hid (dec2 b = if endT s3 e3 ≠ 0 then (endT s3 e3, 0, []) else if chk2 L ≠ 0 then (chk2 L, 0, []) else (0, q, L)) := dec2_eq hD
  have HTK := Lib.hid htk
  have H1 := Lib.hid hD.h1
  have HUP : Hid ((if 1024 < N0 then (t2, 18, 0) else (t2, f2, N0)) = (s2, e2, n)) := by
    have := hD.h2
    unfold upT at this
    rw [htk] at this
    exact this
  have H3 := Lib.hid hD.h3
  have HLE := Lib.hid hD.le
  have HZ := Lib.hid (fun h => hD.zero h)
  have HFT : Hid (∀ p ∈ L, p.Fit 4096) := fun p hp => (hD.fit.1 p hp).1
  clear hD htk
  unfold DecIs2
  generalize dec2 b = R at *
  have ht0 : ((w.alloc (.cells #[.int .u64 0, .slice none 0 0] 53)).alloc (.cells #[.string b, .int .i64 0] 89)).heap[w.heap.size + 1]? = some (.cells #[.string b, .int .i64 0] 89) := by
    have := at_new (w.alloc (.cells #[.int .u64 0, .slice none 0 0] 53)) (.cells #[.string b, .int .i64 0] 89)
    rw [World.size_alloc] at this
    exact this
  have HA := Lib.hid (at_alloc (p := .cells #[.string b, .int .i64 0] 89) (at_new w (.cells #[.int .u64 0, .slice none 0 0] 53)))
  have HF0 := Lib.hid (((Fresh.refl w).alloc (.cells #[.int .u64 0, .slice none 0 0] 53)).alloc (.cells #[.string b, .int .i64 0] 89))
  have HT0 := Lib.hid ht0
  clear ht0
  go_enter Try.func32, Try.ntmps32
  go_wp2_with (fail)
  generalize (w.alloc (.cells #[.int .u64 0, .slice none 0 0] 53)).alloc (.cells #[.string b, .int .i64 0] 89) = W0 at *
  obtain ⟨z, hz⟩ : ∃ z, z = w.heap.size := ⟨_, rfl⟩
  have HZW := Lib.hid hz
  rw [← hz] at HA HT0 ⊢
  clear hz
  refine (rtake_at _ hb H1.out).mono ?_
  rintro r w1 ⟨rfl, hf1⟩
  have HA1 := Lib.hid (hf1.at HA.out)
  have HF1 := Lib.hid (HF0.out.trans hf1)
  have ht1 := hf1.at HT0.out
  have c0 := cell_of_at ht1 (i := 0) rfl
  have c1 := cell_of_at ht1 (i := 1) rfl
  have f0 := frozen_of_at ht1 0
  have f1 := frozen_of_at ht1 1
  have HT1 := Lib.hid ht1
  clear hf1 ht1 HA HF0 HT0
  go_wp2_with (fail)
  have ht2 : ((w1.setCell ⟨z + 1, 0, none⟩ (.string s1)).setCell ⟨z + 1, 1, none⟩ (.int .i64 e1)).heap[z + 1]? = some (.cells #[.string s1, .int .i64 e1] 89) := at_set (at_set HT1.out 0 _) 1 _
  have HA2 := Lib.hid (at_off (at_off HA1.out (show z ≠ z + 1 by omega) (i := 0) (.string s1)) (show z ≠ z + 1 by omega) (i := 1) (.int .i64 e1))
  have HF2 := Lib.hid ((HF1.out.setCell (p := ⟨z + 1, 0, none⟩) (by show w.heap.size ≤ z + 1; have := HZW.out; omega) (.string s1)).setCell (p := ⟨z + 1, 1, none⟩) (by show w.heap.size ≤ z + 1; have := HZW.out; omega) (.int .i64 e1))
  have HT2 := Lib.hid ht2
  clear ht2 c0 c1 f0 f1 HA1 HF1 HT1
  generalize (w1.setCell ⟨z + 1, 0, none⟩ (.string s1)).setCell ⟨z + 1, 1, none⟩ (.int .i64 e1) = W2 at *
  refine (rtake_at _ (Nat.le_trans HLE.out.1 hb) HTK.out).mono ?_
  rintro r w3 ⟨rfl, hf3⟩
  have HA3 := Lib.hid (hf3.at HA2.out)
  have HF3 := Lib.hid (HF2.out.trans hf3)
  have ht3 := hf3.at HT2.out
  have c0 := cell_of_at ht3 (i := 0) rfl
  have c1 := cell_of_at ht3 (i := 1) rfl
  have f0 := frozen_of_at ht3 0
  have f1 := frozen_of_at ht3 1
  have HT3 := Lib.hid ht3
  clear hf3 ht3 HA2 HF2 HT2
  have ht4 : ((w3.setCell ⟨z + 1, 0, none⟩ (.string t2)).setCell ⟨z + 1, 1, none⟩ (.int .i64 f2)).heap[z + 1]? = some (.cells #[.string t2, .int .i64 f2] 89) := at_set (at_set HT3.out 0 _) 1 _
  have HA4 := Lib.hid (at_off (at_off HA3.out (show z ≠ z + 1 by omega) (i := 0) (.string t2)) (show z ≠ z + 1 by omega) (i := 1) (.int .i64 f2))
  have HF4 := Lib.hid ((HF3.out.setCell (p := ⟨z + 1, 0, none⟩) (by show w.heap.size ≤ z + 1; have := HZW.out; omega) (.string t2)).setCell (p := ⟨z + 1, 1, none⟩) (by show w.heap.size ≤ z + 1; have := HZW.out; omega) (.int .i64 f2))
  have HT4 := Lib.hid ht4
  have q0 := cell_of_at HA4.out (i := 0) rfl
  have q1 := cell_of_at HA4.out (i := 1) rfl
  have g0 := frozen_of_at HA4.out 0
  have g1 := frozen_of_at HA4.out 1
  clear ht4
  by_cases hm : 1024 < N0
  · have HR : Hid (R = (18, 0, [])) := by
      have h1 := HUP.out
      rw [if_pos hm] at h1
      simp only [Prod.mk.injEq] at h1
      obtain ⟨rfl, rfl, rfl⟩ := h1
      have h3 : (t2, (18 : Int), ([] : List P2)) = (s3, e3, L) := H3.out
      simp only [Prod.mk.injEq] at h3
      obtain ⟨rfl, rfl, rfl⟩ := h3
      have he : endT t2 18 = 18 := by simp [endT]
      rw [Hid, HEQ.out, he, if_pos (by decide)]
    clear HEQ
    go_wp2
    all_goals try (exfalso; omega)
    refine bodyPost_ret (v := .tuple #[st2 0 none 0 0, .int .i64 18]) (by simp [results, Try.results32, go_sem, st2, *]) rfl ⟨none, 0, [], ?_, ?_, Row2.nil _ _, ?_⟩
    · rw [HR.out]; rfl
    · rw [HR.out]; rfl
    · exact (HF4.out.setCell (p := ⟨z, 0, none⟩) (by show w.heap.size ≤ z; rw [HZW.out]; exact Nat.le_refl _) _).setCell (p := ⟨z, 1, none⟩) (by show w.heap.size ≤ z; rw [HZW.out]; exact Nat.le_refl _) _
  obtain ⟨r1, r2, r3⟩ : t2 = s2 ∧ f2 = e2 ∧ N0 = n := by
    have h1 := HUP.out
    rw [if_neg hm] at h1
    simpa using h1
  subst r1 r2 r3
  clear HUP
  obtain ⟨N, rfl⟩ := Int.eq_ofNat_of_zero_le hn0
  have hN : N ≤ 1024 := by omega
  clear hm hn0 hn1 hN0
  have hwn : wrap64 (N : Int) = (N : Int) := by unfold wrap64; omega
  go_wp2
  all_goals try (exfalso; omega)
  clear q0 q1 g0 g1 c0 c1 f0 f1
  obtain ⟨y, hy⟩ : ∃ y, y = w3.heap.size := ⟨_, rfl⟩
  have hDS : DS2 w (((w3.setCell ⟨z + 1, 0, none⟩ (.string t2)).setCell ⟨z + 1, 1, none⟩ (.int .i64 f2)).alloc (.cells #[.int .u64 q, .slice none 0 0] 53)) z y t2 f2 q none 0 0 [] := by
    have hsz : ((w3.setCell ⟨z + 1, 0, none⟩ (.string t2)).setCell ⟨z + 1, 1, none⟩ (.int .i64 f2)).heap.size = y := by rw [hy]; simp
    refine ⟨HZW.out, ?_, at_alloc HA4.out, at_alloc HT4.out, ?_, World.ownsRow_nil _ _ _ _, by simp, HF4.out.alloc _⟩
    · have := lt_of_at HT3.out; rw [hy]; exact this
    · have := at_new ((w3.setCell ⟨z + 1, 0, none⟩ (.string t2)).setCell ⟨z + 1, 1, none⟩ (.int .i64 f2)) (.cells #[.int .u64 q, .slice none 0 0] 53)
      rw [hsz] at this; exact this
  rw [← hy]
  clear hy
  have HDS := Lib.hid hDS
  clear hDS HA4 HF4 HT4 HA3 HF3 HT3
  generalize ((w3.setCell ⟨z + 1, 0, none⟩ (.string t2)).setCell ⟨z + 1, 1, none⟩ (.int .i64 f2)).alloc (.cells #[.int .u64 q, .slice none 0 0] 53) = V0 at *
  have HS2 : Hid (t2.size ≤ maxLen) := Nat.le_trans HLE.out.2 hb
  have HZ2 : Hid (f2 ≠ 0 → N = 0) := fun h => by have := HZ.out h; omega
  have H3 : Hid (manyT pod2T N t2 f2 = (s3, e3, L)) := by have := H3.out; rw [Int.toNat_natCast] at this; exact this
  obtain ⟨i0, hi, hz0, hz1, hz2⟩ := info_parts infoRP2
  obtain ⟨i1, hj, hj0, hj1, hj2⟩ := info_parts infoRC2
  clear HTK HLE HZ H1 hb
  go_loopw [8] (fun a8 wr => ∃ (k : Nat) (s : ByteArray) (e : Int) (o : Option Addr) (c : Nat) (D : List M2) (EL : List P2), a8 = .int .i64 (k : Int) ∧ k ≤ N ∧ Hid (f2 ≠ 0 → k = 0) ∧ Hid (s.size ≤ maxLen) ∧ Hid (D.length = k) ∧ Hid (e = 0 → EL = pods2 D) ∧ Hid (manyT pod2T N t2 f2 = aheadM EL (manyT pod2T (N - k) s e)) ∧ Hid (DS2 w wr z y s e q o k c D)) (fun a8 _ => N - (intOf a8).toNat)
  case atStart => exact ⟨0, t2, f2, none, 0, [], [], rfl, Nat.zero_le _, fun _ => rfl, HS2.out, rfl, fun _ => rfl, rfl, HDS.out⟩
  case round =>
  clear HDS HS2
  obtain ⟨k, s, e, o, c, D, EL, rfl, hk, HE0, HS, HD, HEL, HE, HDS⟩ := hrel
  obtain ⟨c0, c1, f0, f1⟩ := HDS.out.tc
  by_cases hend : k < N ∧ e = 0
  case pos =>
    obtain ⟨hlt, rfl⟩ := hend
    obtain ⟨s1', s2', s3', s4, s5, s6, s7, x1, x2, x3, e1', e2', e3', e4, e5, e6, e7, v, g, mm, CL, hT⟩ := pod2T_ex s 0
    obtain ⟨⟨hv0, hv1⟩, ⟨hg0, hg1⟩, hm0, hm1⟩ := hT.vals
    obtain ⟨t6, f6, M0, htk⟩ : ∃ t6 f6 M0, takeT s5 e5 1 = (t6, f6, M0) := ⟨_, _, _, rfl⟩
    have hM0 : 0 ≤ M0 := by
      have := (take_val s5 e5 1).1
      rw [show ((1 : Nat) : Int) = 1 from rfl, htk] at this
      exact this
    have HUP : Hid ((if 16 < M0 then (t6, 18, 0) else (t6, f6, M0)) = (s6, e6, mm)) := by
      have := hT.h6
      unfold upT at this
      rw [htk] at this
      exact this
    have HTK := Lib.hid htk
    have HTT := Lib.hid hT
    have HST := Lib.hid (HE.out.trans (manyT_step hlt (pod2T_eq hT) EL))
    have HL : Hid (s1'.size ≤ maxLen ∧ s2'.size ≤ maxLen ∧ s3'.size ≤ maxLen ∧ s4.size ≤ maxLen ∧ s5.size ≤ maxLen ∧ s6.size ≤ maxLen ∧ s7.size ≤ maxLen) := by have := hT.le; have := HS.out; rw [Hid]; omega
    have HW8 := Lib.hid (wrap_u8 hv0 (by omega))
    have HW16 := Lib.hid (wrap_u16 hg0 hg1)
    have HDP := Lib.hid HDS.out.pod
    have hzl := lt_of_at HDS.out.t
    have HELP := Lib.hid (HEL.out rfl)
    clear hT HE htk HEL
    go_wp2_with (fail)
    all_goals try (exfalso; omega)
    clear hwn
    generalize wr.alloc (.cells #[.string ⟨#[]⟩, .string ⟨#[]⟩, .string ⟨#[]⟩, .int .u8 0, .int .u16 0, .slice none 0 0] 103) = V1 at *
    obtain ⟨pb, hpb⟩ : ∃ pb, pb = wr.heap.size := ⟨_, rfl⟩
    rw [← hpb] at HDP ⊢
    clear hpb c0 c1 f0 f1 hzl
    have hn1 : ¬ z + 1 = pb := by have := HDP.out.h1; have := HDP.out.h2; omega
    have hn2 : ¬ pb = z + 1 := fun h => hn1 h.symm
    refine (rtext_at _ (HS.out) HTT.out.h1).mono ?_
    rintro r v0 ⟨rfl, hf⟩
    have HDP := Lib.hid (HDP.out.fresh hf)
    obtain ⟨c0, c1, f0, f1⟩ := HDP.out.tc
    obtain ⟨⟨p0, p1, p2, p3, p4, p5⟩, g0, g1, g2, g3, g4, g5⟩ := HDP.out.pc6
    clear hf
    go_wp2_with (fail)
    have HDP : Hid (DP2 w (((v0.setCell ⟨z + 1, 0, none⟩ (.string s1')).setCell ⟨z + 1, 1, none⟩ (.int .i64 e1')).setCell ⟨pb, 0, none⟩ (.string x1)) z y pb s1' e1' q o k c D #[.string x1, .string ⟨#[]⟩, .string ⟨#[]⟩, .int .u8 0, .int .u16 0, .slice none 0 0] none 0 0 []) := (HDP.out.setT s1' e1').setP 0 (.string x1)
    clear c0 c1 f0 f1 p0 p1 p2 p3 p4 p5 g0 g1 g2 g3 g4 g5
    generalize ((v0.setCell ⟨z + 1, 0, none⟩ (.string s1')).setCell ⟨z + 1, 1, none⟩ (.int .i64 e1')).setCell ⟨pb, 0, none⟩ (.string x1) = U0 at *
    refine (rtext_at _ (HL.out.1) HTT.out.h2).mono ?_
    rintro r v1 ⟨rfl, hf⟩
    have HDP := Lib.hid (HDP.out.fresh hf)
    obtain ⟨c0, c1, f0, f1⟩ := HDP.out.tc
    obtain ⟨⟨p0, p1, p2, p3, p4, p5⟩, g0, g1, g2, g3, g4, g5⟩ := HDP.out.pc6
    clear hf
    go_wp2_with (fail)
    have HDP : Hid (DP2 w (((v1.setCell ⟨z + 1, 0, none⟩ (.string s2')).setCell ⟨z + 1, 1, none⟩ (.int .i64 e2')).setCell ⟨pb, 1, none⟩ (.string x2)) z y pb s2' e2' q o k c D #[.string x1, .string x2, .string ⟨#[]⟩, .int .u8 0, .int .u16 0, .slice none 0 0] none 0 0 []) := (HDP.out.setT s2' e2').setP 1 (.string x2)
    clear c0 c1 f0 f1 p0 p1 p2 p3 p4 p5 g0 g1 g2 g3 g4 g5
    generalize ((v1.setCell ⟨z + 1, 0, none⟩ (.string s2')).setCell ⟨z + 1, 1, none⟩ (.int .i64 e2')).setCell ⟨pb, 1, none⟩ (.string x2) = U1 at *
    refine (rtext_at _ (HL.out.2.1) HTT.out.h3).mono ?_
    rintro r v2 ⟨rfl, hf⟩
    have HDP := Lib.hid (HDP.out.fresh hf)
    obtain ⟨c0, c1, f0, f1⟩ := HDP.out.tc
    obtain ⟨⟨p0, p1, p2, p3, p4, p5⟩, g0, g1, g2, g3, g4, g5⟩ := HDP.out.pc6
    clear hf
    go_wp2_with (fail)
    have HDP : Hid (DP2 w (((v2.setCell ⟨z + 1, 0, none⟩ (.string s3')).setCell ⟨z + 1, 1, none⟩ (.int .i64 e3')).setCell ⟨pb, 2, none⟩ (.string x3)) z y pb s3' e3' q o k c D #[.string x1, .string x2, .string x3, .int .u8 0, .int .u16 0, .slice none 0 0] none 0 0 []) := (HDP.out.setT s3' e3').setP 2 (.string x3)
    clear c0 c1 f0 f1 p0 p1 p2 p3 p4 p5 g0 g1 g2 g3 g4 g5
    generalize ((v2.setCell ⟨z + 1, 0, none⟩ (.string s3')).setCell ⟨z + 1, 1, none⟩ (.int .i64 e3')).setCell ⟨pb, 2, none⟩ (.string x3) = U2 at *
    refine (rtake_at _ (HL.out.2.2.1) HTT.out.h4).mono ?_
    rintro r v3 ⟨rfl, hf⟩
    have HDP := Lib.hid (HDP.out.fresh hf)
    obtain ⟨c0, c1, f0, f1⟩ := HDP.out.tc
    obtain ⟨⟨p0, p1, p2, p3, p4, p5⟩, g0, g1, g2, g3, g4, g5⟩ := HDP.out.pc6
    clear hf
    go_wp2_with (fail)
    have HDP : Hid (DP2 w ((v3.setCell ⟨z + 1, 0, none⟩ (.string s4)).setCell ⟨z + 1, 1, none⟩ (.int .i64 e4)) z y pb s4 e4 q o k c D #[.string x1, .string x2, .string x3, .int .u8 0, .int .u16 0, .slice none 0 0] none 0 0 []) := HDP.out.setT s4 e4
    clear c0 c1 f0 f1 p0 p1 p2 p3 p4 p5 g0 g1 g2 g3 g4 g5
    generalize (v3.setCell ⟨z + 1, 0, none⟩ (.string s4)).setCell ⟨z + 1, 1, none⟩ (.int .i64 e4) = U3 at *
    refine (rtake_at _ (HL.out.2.2.2.1) HTT.out.h5).mono ?_
    rintro r v4 ⟨rfl, hf⟩
    have HDP := Lib.hid (HDP.out.fresh hf)
    obtain ⟨c0, c1, f0, f1⟩ := HDP.out.tc
    obtain ⟨⟨p0, p1, p2, p3, p4, p5⟩, g0, g1, g2, g3, g4, g5⟩ := HDP.out.pc6
    clear hf
    go_wp2_with (fail)
    have HDP : Hid (DP2 w ((v4.setCell ⟨z + 1, 0, none⟩ (.string s5)).setCell ⟨z + 1, 1, none⟩ (.int .i64 e5)) z y pb s5 e5 q o k c D #[.string x1, .string x2, .string x3, .int .u8 0, .int .u16 0, .slice none 0 0] none 0 0 []) := HDP.out.setT s5 e5
    clear c0 c1 f0 f1 p0 p1 p2 p3 p4 p5 g0 g1 g2 g3 g4 g5
    generalize (v4.setCell ⟨z + 1, 0, none⟩ (.string s5)).setCell ⟨z + 1, 1, none⟩ (.int .i64 e5) = U4 at *
    refine (rtake_at _ (HL.out.2.2.2.2.1) HTK.out).mono ?_
    rintro r V6 ⟨rfl, hf⟩
    have HDP := Lib.hid (HDP.out.fresh hf)
    obtain ⟨c0, c1, f0, f1⟩ := HDP.out.tc
    obtain ⟨⟨p0, p1, p2, p3, p4, p5⟩, g0, g1, g2, g3, g4, g5⟩ := HDP.out.pc6
    clear hf
    by_cases hm16 : 16 < M0
    · have HR : Hid (R = (18, 0, [])) := by
        have h1 := HUP.out
        rw [if_pos hm16] at h1
        simp only [Prod.mk.injEq] at h1
        obtain ⟨rfl, rfl, rfl⟩ := h1
        have h7 : (t6, (18 : Int), ([] : List C2)) = (s7, e7, CL) := HTT.out.h7
        simp only [Prod.mk.injEq] at h7
        obtain ⟨rfl, rfl, rfl⟩ := h7
        have h1 := H3.out.symm.trans HST.out
        have h2 := manyT_err pod2T_keeps (N - (k + 1)) (s := t6) (e := 18) (by decide)
        simp only [aheadM, Prod.mk.injEq] at h1
        have he : endT s3 e3 = 18 := by rw [h1.1, h1.2.1, h2.1, h2.2]; simp [endT]
        rw [Hid, HEQ.out, he, if_pos (by decide)]
      have q0 := cell_of_at HDP.out.r (i := 0) rfl
      have q1 := cell_of_at HDP.out.r (i := 1) rfl
      have u0 := frozen_of_at HDP.out.r 0
      have u1 := frozen_of_at HDP.out.r 1
      have HDT := Lib.hid (HDP.out.setT t6 f6)
      have hzn : ¬ z = z + 1 := by omega
      clear HEQ HST H3
      go_wp2
      all_goals try (exfalso; omega)
      refine bodyPost_ret (v := .tuple #[st2 0 none 0 0, .int .i64 18]) (by simp [results, Try.results32, go_sem, st2, *]) rfl ⟨none, 0, [], ?_, ?_, Row2.nil _ _, ?_⟩
      · rw [HR.out]; rfl
      · rw [HR.out]; rfl
      · exact (HDT.out.fr.setCell (p := ⟨z, 0, none⟩) (by show w.heap.size ≤ z; rw [HZW.out]; exact Nat.le_refl _) _).setCell (p := ⟨z, 1, none⟩) (by show w.heap.size ≤ z; rw [HZW.out]; exact Nat.le_refl _) _
    obtain ⟨r1, r2, r3⟩ : t6 = s6 ∧ f6 = e6 ∧ M0 = mm := by
      have h1 := HUP.out
      rw [if_neg hm16] at h1
      simpa using h1
    subst r1 r2 r3
    clear HUP hm16 hM0
    obtain ⟨M, hMM⟩ := Int.eq_ofNat_of_zero_le hm0
    have hM : M ≤ 16 := by omega
    have HMM := Lib.hid hMM
    clear hMM
    have HWM : Hid (wrap64 M0 = M0) := by rw [Hid]; unfold wrap64; omega
    have H7 : Hid (manyT contT M t6 f6 = (s7, e7, CL)) := by have := HTT.out.h7; rw [HMM.out, Int.toNat_natCast] at this; exact this
    have HDQ3 : Hid (DP2 w (((V6.setCell ⟨z + 1, 0, none⟩ (.string t6)).setCell ⟨z + 1, 1, none⟩ (.int .i64 f6)).setCell ⟨pb, 3, none⟩ (.int .u8 v)) z y pb t6 f6 q o k c D #[.string x1, .string x2, .string x3, .int .u8 v, .int .u16 0, .slice none 0 0] none 0 0 []) := (HDP.out.setT t6 f6).setP 3 (.int .u8 v)
    have HDQ : Hid (DP2 w ((((V6.setCell ⟨z + 1, 0, none⟩ (.string t6)).setCell ⟨z + 1, 1, none⟩ (.int .i64 f6)).setCell ⟨pb, 3, none⟩ (.int .u8 v)).setCell ⟨pb, 4, none⟩ (.int .u16 g)) z y pb t6 f6 q o k c D #[.string x1, .string x2, .string x3, .int .u8 v, .int .u16 g, .slice none 0 0] none 0 0 []) := HDQ3.out.setP 4 (.int .u16 g)
    clear HDQ3
    have HZM : Hid (f6 ≠ 0 → M = 0) := fun h => by have := upT_zero HTT.out.h6 h; rw [HMM.out] at this; exact Int.ofNat_eq_zero.1 this
    clear HTT HTK
    have hw8 := HW8.out
    have hw16 := HW16.out
    go_wp2
    all_goals clear hw8 hw16
    all_goals try (exfalso; omega)
    clear c0 c1 f0 f1 p0 p1 p2 p3 p4 p5 g0 g1 g2 g3 g4 g5 HDP HDS
    generalize (((V6.setCell ⟨z + 1, 0, none⟩ (.string t6)).setCell ⟨z + 1, 1, none⟩ (.int .i64 f6)).setCell ⟨pb, 3, none⟩ (.int .u8 v)).setCell ⟨pb, 4, none⟩ (.int .u16 g) = V7 at *
    go_loopw [13] (fun a13 wr => ∃ (j : Nat) (s : ByteArray) (e : Int) (a : Option Addr) (cc : Nat) (cs : List C2), a13 = .int .i64 (j : Int) ∧ j ≤ M ∧ Hid (f6 ≠ 0 → j = 0) ∧ Hid (s.size ≤ maxLen) ∧ Hid (cs.length = j) ∧ Hid (manyT contT M t6 f6 = aheadM cs (manyT contT (M - j) s e)) ∧ Hid (DP2 w wr z y pb s e q o k c D #[.string x1, .string x2, .string x3, .int .u8 v, .int .u16 g, .slice a j cc] a j cc cs)) (fun a13 _ => M - (intOf a13).toNat)
    case atStart => exact ⟨0, t6, f6, none, 0, [], rfl, Nat.zero_le _, fun _ => rfl, HL.out.2.2.2.2.2.1, rfl, rfl, HDQ.out⟩
    case round =>
    clear HDQ
    obtain ⟨j, s, e, a, cc, cs, rfl, hjM, HJ0, HSJ, HCS, HEJ, HDP⟩ := hrel
    obtain ⟨c0, c1, f0, f1⟩ := HDP.out.tc
    by_cases hend2 : j < M ∧ e = 0
    case pos =>
      obtain ⟨hjlt, rfl⟩ := hend2
      obtain ⟨u1, d1, y1, hu1⟩ : ∃ u1 d1 y1, textT s 0 = (u1, d1, y1) := ⟨_, _, _, rfl⟩
      obtain ⟨u2, d2, y2, hu2⟩ : ∃ u2 d2 y2, textT u1 d1 = (u2, d2, y2) := ⟨_, _, _, rfl⟩
      have HSJT := Lib.hid (HEJ.out.trans (manyT_step hjlt (contT_eq hu1 hu2) cs))
      have HU1 := Lib.hid hu1
      have HU2 := Lib.hid hu2
      have HLU : Hid (u1.size ≤ maxLen ∧ u2.size ≤ maxLen) := by have := (textT_len hu1).1; have := (textT_len hu2).1; have := HSJ.out; rw [Hid]; omega
      have HDC := Lib.hid HDP.out.cont
      have hzl := lt_of_at HDP.out.t
      have hpl := lt_of_at HDP.out.p
      clear hu1 hu2 HEJ
      have hjmm : (j : Int) < M0 := by rw [HMM.out]; omega
      have hwm := HWM.out
      go_wp2_with (fail)
      all_goals clear hwm
      all_goals try (exfalso; omega)
      generalize wr.alloc (.cells #[.string ⟨#[]⟩, .string ⟨#[]⟩] 104) = X1 at *
      obtain ⟨cb, hcb⟩ : ∃ cb, cb = wr.heap.size := ⟨_, rfl⟩
      rw [← hcb] at HDC ⊢
      clear hcb c0 c1 f0 f1 hzl hpl
      have hm1 : ¬ z + 1 = cb := by have := HDC.out.h1; have := HDC.out.h2; have := HDC.out.h3; omega
      have hm2 : ¬ cb = z + 1 := fun h => hm1 h.symm
      have hm3 : ¬ pb = cb := by have := HDC.out.h3; omega
      have hm4 : ¬ cb = pb := fun h => hm3 h.symm
      refine (rtext_at _ HSJ.out HU1.out).mono ?_
      rintro r X2 ⟨rfl, hf⟩
      have HDC := Lib.hid (HDC.out.fresh hf)
      obtain ⟨c0, c1, f0, f1⟩ := HDC.out.tc
      obtain ⟨⟨l0, l1⟩, m0, m1⟩ := HDC.out.xc2
      clear hf
      go_wp2_with (fail)
      have HDC : Hid (DC2 w (((X2.setCell ⟨z + 1, 0, none⟩ (.string u1)).setCell ⟨z + 1, 1, none⟩ (.int .i64 d1)).setCell ⟨cb, 0, none⟩ (.string y1)) z y pb cb u1 d1 q o k c D #[.string x1, .string x2, .string x3, .int .u8 v, .int .u16 g, .slice a j cc] a j cc cs #[.string y1, .string ⟨#[]⟩]) := (HDC.out.setT u1 d1).setC 0 (.string y1)
      clear c0 c1 f0 f1 l0 l1 m0 m1
      generalize ((X2.setCell ⟨z + 1, 0, none⟩ (.string u1)).setCell ⟨z + 1, 1, none⟩ (.int .i64 d1)).setCell ⟨cb, 0, none⟩ (.string y1) = X3 at *
      refine (rtext_at _ HLU.out.1 HU2.out).mono ?_
      rintro r X4 ⟨rfl, hf⟩
      have HDC := Lib.hid (HDC.out.fresh hf)
      obtain ⟨c0, c1, f0, f1⟩ := HDC.out.tc
      obtain ⟨⟨l0, l1⟩, m0, m1⟩ := HDC.out.xc2
      obtain ⟨⟨p0, p1, p2, p3, p4, p5⟩, g0, g1, g2, g3, g4, g5⟩ := HDC.out.pc6
      clear hf
      have HDE : Hid (DC2 w (((X4.setCell ⟨z + 1, 0, none⟩ (.string u2)).setCell ⟨z + 1, 1, none⟩ (.int .i64 d2)).setCell ⟨cb, 1, none⟩ (.string y2)) z y pb cb u2 d2 q o k c D #[.string x1, .string x2, .string x3, .int .u8 v, .int .u16 g, .slice a j cc] a j cc cs #[.string y1, .string y2]) := (HDC.out.setT u2 d2).setC 1 (.string y2)
      have HSZ : Hid ((((X4.setCell ⟨z + 1, 0, none⟩ (.string u2)).setCell ⟨z + 1, 1, none⟩ (.int .i64 d2)).setCell ⟨cb, 1, none⟩ (.string y2)).heap.size = X4.heap.size) := by simp [Hid]
      have HN : Hid (∀ j u, [Value.string y1, .string y2][j]? = some u → ((((X4.setCell ⟨z + 1, 0, none⟩ (.string u2)).setCell ⟨z + 1, 1, none⟩ (.int .i64 d2)).setCell ⟨cb, 1, none⟩ (.string y2)).alloc (.cells #[.string y1, .string y2] 104)).cell? ((⟨X4.heap.size, 0, none⟩ : Addr).add j) = some u) := by
        have := news7 (((X4.setCell ⟨z + 1, 0, none⟩ (.string u2)).setCell ⟨z + 1, 1, none⟩ (.int .i64 d2)).setCell ⟨cb, 1, none⟩ (.string y2)) 104 [.string y1, .string y2]
        rw [HSZ.out] at this
        exact this
      have HPS : Hid (pb < X4.heap.size) := lt_of_at HDC.out.p
      go_wp2_with (at_builtin; refine Hid.out ?_)
      refine Lib.hid ?_
      clear c0 c1 f0 f1 l0 l1 m0 m1 p0 p1 p2 p3 p4 p5 g0 g1 g2 g3 g4 g5 HDC
      generalize ((X4.setCell ⟨z + 1, 0, none⟩ (.string u2)).setCell ⟨z + 1, 1, none⟩ (.int .i64 d2)).setCell ⟨cb, 1, none⟩ (.string y2) = X5 at *
      generalize X4.heap.size = nb at *
      refine wpList_append_own _ rfl _ _ 101 rfl (pb + 1) 104 i1 (.agg #[.string ⟨#[]⟩, .string ⟨#[]⟩]) 2 32 Try.underlying101 hj hj0 hj1 hj2 rfl (by decide) _ j _ rfl (World.ownsRow.alloc HDE.out.crow _) ⟨nb, 0, none⟩ 1 1 [.string y1, .string y2] rfl rfl HN.out (by simp [Value.oneCell']) (by unfold maxLen; omega) (by omega) (by rw [World.size_alloc, HSZ.out]; have := HPS.out; omega) ?_
      intro v' X6 hown' hgrow _
      obtain ⟨g', cap', rfl⟩ := ownsRow_succ hown'
      have HDF := Lib.hid ((HDE.out.toDP2.fresh ((Fresh.refl X5).alloc _)).grownC (cs' := cs ++ [(⟨y1, y2⟩ : C2)]) hgrow (by rw [c2s_snoc]; exact hown'))
      obtain ⟨⟨p0, p1, p2, p3, p4, p5⟩, g0, g1, g2, g3, g4, g5⟩ := HDF.out.pc6
      clear hown' hgrow
      go_wp2
      have HDG : Hid (DP2 w (X6.setCell ⟨pb, 5, none⟩ (.slice (some ⟨g', 0, none⟩) (j + 1) cap')) z y pb u2 d2 q o k c D #[.string x1, .string x2, .string x3, .int .u8 v, .int .u16 g, .slice (some ⟨g', 0, none⟩) (j + 1) cap'] (some ⟨g', 0, none⟩) (j + 1) cap' (cs ++ [(⟨y1, y2⟩ : C2)])) := HDF.out.setP 5 _
      go_roundw
      case rel =>
        refine ⟨j + 1, u2, d2, some ⟨g', 0, none⟩, cap', cs ++ ([⟨y1, y2⟩] : List C2), by simp, by omega, fun h => absurd (HZM.out h) (by omega), HLU.out.2, ?_, HSJT.out, HDG.out⟩
        rw [Hid, List.length_append, HCS.out]; rfl
      case measure => simp [intOf]; omega
    case neg =>
      have HR : Hid (s7 = s ∧ e7 = e ∧ (e = 0 → CL = cs ∧ j = M)) := by
        have h1 := H7.out.symm.trans HEJ.out
        simp only [aheadM, Prod.mk.injEq] at h1
        by_cases he : e = 0
        · have hkN : j = M := by omega
          rw [hkN, Nat.sub_self] at h1
          simp only [manyT, List.append_nil] at h1
          exact ⟨h1.1, h1.2.1, fun _ => ⟨h1.2.2, hkN⟩⟩
        · have h2 := manyT_err contT_keeps (M - j) (s := s) he
          exact ⟨h1.1.trans h2.1, h1.2.1.trans h2.2, fun h => absurd h he⟩
      obtain ⟨h3, h4, HLD⟩ := HR.out
      subst h3 h4
      have HLD := Lib.hid HLD
      clear HR H7 HEJ HJ0 HZM
      have hcase : ((j : Int) < M0 ∧ (e7 == 0) = false) ∨ ¬ (j : Int) < M0 := by
        rw [HMM.out]
        by_cases h1 : (j : Int) < (M : Int)
        · exact .inl ⟨h1, by rw [beq_eq_false_iff_ne]; exact fun h2 => hend2 ⟨by omega, h2⟩⟩
        · exact .inr h1
      obtain ⟨⟨p0, p1, p2, p3, p4, p5⟩, g0, g1, g2, g3, g4, g5⟩ := HDP.out.pc6
      have d0 := cell_of_at HDP.out.st (i := 0) rfl
      have d1 := cell_of_at HDP.out.st (i := 1) rfl
      have hy1 : ¬ y = pb := by have := HDP.out.h2; omega
      have HN := Lib.hid (news7 wr 103 [.string x1, .string x2, .string x3, .int .u8 v, .int .u16 g, .slice a j cc])
      have HYS : Hid (y < wr.heap.size) := lt_of_at HDP.out.st
      have HML : Hid (cs.length ≤ cc) := by rw [Hid, HCS.out]; exact own_le HDP.out.crow
      clear hend2
      rcases hcase with ⟨hk2, ee1⟩ | hk2
      all_goals
        have hwm := HWM.out
        go_wp2_with (at_builtin; refine Hid.out ?_)
        all_goals clear hwm
        all_goals try (exfalso; omega)
        refine Lib.hid ?_
        refine wpList_append_lies _ rfl _ _ 51 rfl (y + 1) 103 i0 (.agg #[.string ⟨#[]⟩, .string ⟨#[]⟩, .string ⟨#[]⟩, .int .u8 0, .int .u16 0, .slice none 0 0]) 6 80 Try.underlying51 hi hz0 hz1 hz2 rfl (by decide) _ k _ rfl (World.ownsRow.alloc HDP.out.row _) ⟨wr.heap.size, 0, none⟩ 1 1 [.string x1, .string x2, .string x3, .int .u8 v, .int .u16 g, .slice a j cc] rfl rfl HN.out (by simp [Value.oneCell']) (by decide) (by unfold maxLen; omega) (by omega) (by rw [World.size_alloc]; have := HYS.out; omega) _ rfl ?_
        intro g' cap' w8 hown' hgrow hat _
        have HND : Hid (DS2 w (w8.setCell ⟨y, 1, none⟩ (.slice (some ⟨g', 0, none⟩) (k + 1) cap')) z y s7 e7 q (some ⟨g', 0, none⟩) (k + 1) cap' (D ++ [(⟨⟨x1, x2, x3, v, g, cs⟩, a, cc⟩ : M2)])) :=
          (HDP.out.fresh ((Fresh.refl wr).alloc _)).grownP (m := ⟨⟨x1, x2, x3, v, g, cs⟩, a, cc⟩) rfl rfl HML.out hgrow hat (by rw [m2s_snoc]; dsimp only; rw [HCS.out]; exact hown')
        have hyk : w8.cell? ⟨y, 1, none⟩ = some (.slice o k c) ∧ w8.frozen? ⟨y, 1, none⟩ = false := by
          have hlt : ∀ g, (Value.slice o k c).ownBlock = some g → y + 1 ≤ g := fun g e => (World.ownsRow.lt HDP.out.row g e).1
          have h1 := (hgrow.block y (by rw [World.size_alloc]; have := HYS.out; omega) (fun e => by have := hlt y e.symm; omega)).trans (at_alloc HDP.out.st)
          exact ⟨cell_of_at h1 (i := 1) rfl, frozen_of_at h1 1⟩
        obtain ⟨k1, kf⟩ := hyk
        clear hown' hgrow hat d0 d1 p0 p1 p2 p3 p4 p5 g0 g1 g2 g3 g4 g5 c0 c1 f0 f1
        go_wp2
        go_roundw
        case rel =>
          refine ⟨k + 1, s7, e7, some ⟨g', 0, none⟩, cap', D ++ [(⟨⟨x1, x2, x3, v, g, cs⟩, a, cc⟩ : M2)], EL ++ [(⟨x1, x2, x3, v, g, CL⟩ : P2)], by simp, by omega, fun h => absurd (HZ2.out h) (by omega), HL.out.2.2.2.2.2.2, ?_, fun h => ?_, HST.out, HND.out⟩
          · rw [Hid, List.length_append, HD.out]; rfl
          · rw [HELP.out, pods2_snoc, (HLD.out h).1]
        case measure => simp [intOf]; omega
  case neg =>
    have HR : Hid (s3 = s ∧ e3 = e ∧ (e = 0 → L = pods2 D ∧ k = N)) := by
      have h1 := H3.out.symm.trans HE.out
      simp only [aheadM, Prod.mk.injEq] at h1
      by_cases he : e = 0
      · have hkN : k = N := by omega
        rw [hkN, Nat.sub_self] at h1
        simp only [manyT, List.append_nil] at h1
        exact ⟨h1.1, h1.2.1, fun _ => ⟨by rw [h1.2.2]; exact HEL.out he, hkN⟩⟩
      · have h2 := manyT_err pod2T_keeps (N - k) (s := s) he
        exact ⟨h1.1.trans h2.1, h1.2.1.trans h2.2, fun h => absurd h he⟩
    obtain ⟨h3, h4, HLD⟩ := HR.out
    subst h3 h4
    have HLD := Lib.hid HLD
    clear HR H3 HE HE0 HZ2 HEL
    have HEN := Lib.hid (fun W => rend_any s3 e3 W)
    have hcase : (k < N ∧ (e3 == 0) = false) ∨ ¬ k < N := by
      by_cases h1 : k < N
      · exact .inl ⟨h1, by rw [beq_eq_false_iff_ne]; exact fun h2 => hend ⟨h1, h2⟩⟩
      · exact .inr h1
    clear hend
    have HEE : Hid (endT s3 e3 = 0 → e3 = 0) := fun h => by
      unfold endT at h
      split at h
      · simp at h
      · exact h
    generalize endT s3 e3 = E at *
    by_cases hE : E = 0
    case neg =>
      have HR : Hid (R = (E, 0, [])) := by rw [Hid, HEQ.out, if_pos hE]
      have e0 : (E != 0) = true := by simpa using hE
      clear HEQ HEE HLD hE
      rcases hcase with ⟨hk2, ee1⟩ | hk2
      all_goals
        go_wp2_with (fail)
        all_goals try (exfalso; omega)
        refine (HEN.out _).mono ?_
        rintro r w5 ⟨rfl, hf⟩
        have HD5 := Lib.hid (HDS.out.fresh hf)
        have q0 := cell_of_at HD5.out.r (i := 0) rfl
        have q1 := cell_of_at HD5.out.r (i := 1) rfl
        have g0 := frozen_of_at HD5.out.r 0
        have g1 := frozen_of_at HD5.out.r 1
        go_wp2
        refine bodyPost_ret (v := .tuple #[st2 0 none 0 0, .int .i64 E]) (by simp [results, Try.results32, go_sem, st2, *]) rfl ⟨none, 0, [], ?_, ?_, Row2.nil _ _, ?_⟩
        · rw [HR.out]; rfl
        · rw [HR.out]; rfl
        · exact (HD5.out.fr.setCell (p := ⟨z, 0, none⟩) (by show w.heap.size ≤ z; rw [HZW.out]; exact Nat.le_refl _) _).setCell (p := ⟨z, 1, none⟩) (by show w.heap.size ≤ z; rw [HZW.out]; exact Nat.le_refl _) _
    obtain rfl := HEE.out hE
    obtain ⟨h5, h6⟩ := HLD.out rfl
    subst h6
    subst hE
    have hk2 : ¬ k < k := Nat.lt_irrefl k
    have HR1 : Hid (R = if chk2 L ≠ 0 then (chk2 L, 0, []) else (0, q, L)) := by rw [Hid, HEQ.out, if_neg (by simp)]
    have HPL := Lib.hid h5
    have HCK : Hid (∀ W W', DS2 w W z y s3 0 q o k c D → Fresh W W' → Calls Try.prog 25 #[.agg #[.int .u64 q, .slice o k c]] W' fun e w' => e = .returned (.int .i64 (chk2 L)) ∧ Fresh W' w') := fun W W' h f => by
      have := rcheck2_any q o D c W' (h.row2.move f) (fun m hm => (HFT.out m.p (by rw [h5]; exact List.mem_map_of_mem hm)).mono (by omega)) (by rw [HD.out]; omega)
      rw [HD.out, ← h5] at this
      exact this
    clear HEQ HEE HLD hcase HFT h5
    generalize hC : chk2 L = C at *
    clear hC
    by_cases hC : C = 0
    case neg =>
      have HR : Hid (R = (C, 0, [])) := by rw [Hid, HR1.out, if_pos hC]
      have e0 : (C != 0) = true := by simpa using hC
      clear HR1 hC
      go_wp2_with (fail)
      all_goals try (exfalso; omega)
      refine (HEN.out _).mono ?_
      rintro r w5 ⟨rfl, hf⟩
      have HD5 := Lib.hid (HDS.out.fresh hf)
      have d0 := cell_of_at HD5.out.st (i := 0) rfl
      have d1 := cell_of_at HD5.out.st (i := 1) rfl
      clear hf
      go_wp2_with (fail)
      refine (HCK.out _ _ HD5.out (.refl _)).mono ?_
      rintro r w6 ⟨rfl, hf⟩
      have HD6 := Lib.hid (HD5.out.fresh hf)
      have q0 := cell_of_at HD6.out.r (i := 0) rfl
      have q1 := cell_of_at HD6.out.r (i := 1) rfl
      have g0 := frozen_of_at HD6.out.r 0
      have g1 := frozen_of_at HD6.out.r 1
      clear d0 d1 hf
      go_wp2
      refine bodyPost_ret (v := .tuple #[st2 0 none 0 0, .int .i64 C]) (by simp [results, Try.results32, go_sem, st2, *]) rfl ⟨none, 0, [], ?_, ?_, Row2.nil _ _, ?_⟩
      · rw [HR.out]; rfl
      · rw [HR.out]; rfl
      · exact (HD6.out.fr.setCell (p := ⟨z, 0, none⟩) (by show w.heap.size ≤ z; rw [HZW.out]; exact Nat.le_refl _) _).setCell (p := ⟨z, 1, none⟩) (by show w.heap.size ≤ z; rw [HZW.out]; exact Nat.le_refl _) _
    have HR : Hid (R = (0, q, L)) := by rw [Hid, HR1.out, if_neg (by simpa using hC)]
    subst hC
    clear HR1
    go_wp2_with (fail)
    all_goals try (exfalso; omega)
    refine (HEN.out _).mono ?_
    rintro r w5 ⟨rfl, hf⟩
    have HD5 := Lib.hid (HDS.out.fresh hf)
    have d0 := cell_of_at HD5.out.st (i := 0) rfl
    have d1 := cell_of_at HD5.out.st (i := 1) rfl
    clear hf
    go_wp2_with (fail)
    refine (HCK.out _ _ HD5.out (.refl _)).mono ?_
    rintro r w6 ⟨rfl, hf⟩
    have HD6 := Lib.hid (HD5.out.fresh hf)
    have d0 := cell_of_at HD6.out.st (i := 0) rfl
    have d1 := cell_of_at HD6.out.st (i := 1) rfl
    have q0 := cell_of_at HD6.out.r (i := 0) rfl
    have q1 := cell_of_at HD6.out.r (i := 1) rfl
    have g0 := frozen_of_at HD6.out.r 0
    have g1 := frozen_of_at HD6.out.r 1
    have HLT : Hid (∀ ad : Addr, o = some ad → ad.block ≠ z) := fun ad h => by
      have h1 := (World.ownsRow.lt HD6.out.row ad.block (by rw [h]; rfl)).1
      have h2 := HD6.out.h1
      omega
    have HLM : Hid (∀ m ∈ D, ∀ ad : Addr, m.a = some ad → ad.block ≠ z) := fun m hm ad h => by
      have h1 := ((HD6.out.far m hm).2 ad h).1
      have h2 := HD6.out.h1
      omega
    clear hf
    go_wp2
    refine bodyPost_ret (v := .tuple #[st2 q o k c, .int .i64 0]) (by simp [results, Try.results32, go_sem, st2, *]) rfl ⟨o, c, D, ?_, ?_, ?_, ?_⟩
    · rw [HR.out]; dsimp only; rw [HD.out]
    · rw [HR.out]; exact HPL.out.symm
    · exact (HD6.out.row2.set HLT.out HLM.out).set HLT.out HLM.out
    · exact (HD6.out.fr.setCell (p := ⟨z, 0, none⟩) (by show w.heap.size ≤ z; rw [HZW.out]; exact Nat.le_refl _) _).setCell (p := ⟨z, 1, none⟩) (by show w.heap.size ≤ z; rw [HZW.out]; exact Nat.le_refl _) _
end Go.Proofs.Ytphjhlnjfcfdcaa
namespace Go.Proofs.Ytphjhlnjfcfdcaa
open Go.ChangeShapes Go.WideShapes Go.ChangeAt Go.RowKit
set_option maxRecDepth 100000

def same2 (s t : Int) (l m : List P2) : Bool := decide (s = t) && eqP l m
theorem set6_cell {w : World} {g i z : Nat} {x u0 u1 u2 u3 u4 u5 : Value} (h : w.cell? ⟨g, i, none⟩ = some x) (hne : g ≠ z) :
    ((((((w.setCell ⟨z, 0, none⟩ u0).setCell ⟨z, 1, none⟩ u1).setCell ⟨z, 2, none⟩ u2).setCell ⟨z, 3, none⟩ u3).setCell ⟨z, 4, none⟩ u4).setCell ⟨z, 5, none⟩ u5).cell? ⟨g, i, none⟩ = some x :=
  cell_set_ne (cell_set_ne (cell_set_ne (cell_set_ne (cell_set_ne (cell_set_ne h hne) hne) hne) hne) hne) hne
theorem set6_at {w : World} {z t : Nat} {u0 u1 u2 u3 u4 u5 : Value} {c0 c1 c2 c3 c4 c5 : Value} (h : w.heap[z]? = some (.cells #[c0, c1, c2, c3, c4, c5] t)) :
    ((((((w.setCell ⟨z, 0, none⟩ u0).setCell ⟨z, 1, none⟩ u1).setCell ⟨z, 2, none⟩ u2).setCell ⟨z, 3, none⟩ u3).setCell ⟨z, 4, none⟩ u4).setCell ⟨z, 5, none⟩ u5).heap[z]? = some (.cells #[u0, u1, u2, u3, u4, u5] t) :=
  at_set (at_set (at_set (at_set (at_set (at_set h 0 _) 1 _) 2 _) 3 _) 4 _) 5 _
theorem set6_off {w : World} {g z : Nat} {o : Obj} {u0 u1 u2 u3 u4 u5 : Value} (h : w.heap[g]? = some o) (hne : g ≠ z) :
    ((((((w.setCell ⟨z, 0, none⟩ u0).setCell ⟨z, 1, none⟩ u1).setCell ⟨z, 2, none⟩ u2).setCell ⟨z, 3, none⟩ u3).setCell ⟨z, 4, none⟩ u4).setCell ⟨z, 5, none⟩ u5).heap[g]? = some o :=
  at_off (at_off (at_off (at_off (at_off (at_off h hne _) hne _) hne _) hne _) hne _) hne _
theorem set6_fresh {w W : World} {z : Nat} {u0 u1 u2 u3 u4 u5 : Value} (f : Fresh w W) (hz : w.heap.size ≤ z) :
    Fresh w ((((((W.setCell ⟨z, 0, none⟩ u0).setCell ⟨z, 1, none⟩ u1).setCell ⟨z, 2, none⟩ u2).setCell ⟨z, 3, none⟩ u3).setCell ⟨z, 4, none⟩ u4).setCell ⟨z, 5, none⟩ u5) :=
  (((((f.setCell (p := ⟨z, 0, none⟩) hz _).setCell (p := ⟨z, 1, none⟩) hz _).setCell (p := ⟨z, 2, none⟩) hz _).setCell (p := ⟨z, 3, none⟩) hz _).setCell (p := ⟨z, 4, none⟩) hz _).setCell (p := ⟨z, 5, none⟩) hz _
theorem eqC_one {x1 x2 y1 y2 : ByteArray} : C2.eqB ⟨x1, x2⟩ ⟨y1, y2⟩ = (decide (x1 = y1) && decide (x2 = y2)) := rfl
set_option maxHeartbeats 16000000 in
theorem rsame2_any (s t : Int) (l m : List M2) (a a' : Option Addr) (cap cap' : Nat) (w : World) (ha : Row2 w a l) (ha' : Row2 w a' m) (hl : l.length ≤ 4000000) (hcl : ∀ x ∈ l, x.p.cs.length ≤ 4000000) :
    Calls Try.prog 30 #[st2 s a l.length cap, st2 t a' m.length cap'] w fun e w' => e = .returned (.bool (same2 s t (pods2 l) (pods2 m))) ∧ Fresh w w' := by
  have HE : Hid (same2 s t (pods2 l) (pods2 m) = (decide (s = t) && eqP (pods2 l) (pods2 m))) := rfl
  have HX := Lib.hid (two_boxes w (.cells #[.int .u64 s, .slice a l.length cap] 53) (.cells #[.int .u64 t, .slice a' m.length cap'] 53))
  have HF0 := Lib.hid HX.out.2.2.1
  have HROW := Lib.hid (ha.move HF0.out)
  have HROW' := Lib.hid (ha'.move HF0.out)
  have HCL := Lib.hid hcl
  clear ha ha' hcl
  dsimp only [st2]
  generalize same2 s t (pods2 l) (pods2 m) = R at *
  by_cases hs : s = t
  case neg =>
    have HR : Hid (R = false) := by rw [Hid, HE.out, decide_eq_false hs]; rfl
    have e0 : (s == t) = false := by rw [beq_eq_false_iff_ne]; exact hs
    clear HE
    go_enter Try.func30, Try.ntmps30
    go_wp2
    go_ret
    exact ⟨ret_bool HR.out.symm, HF0.out⟩
  subst hs
  have HR0 : Hid (R = eqP (pods2 l) (pods2 m)) := by rw [Hid, HE.out]; simp
  clear HE
  have HPL : Hid ((pods2 l).length = l.length ∧ (pods2 m).length = m.length) := by simp [Hid, pods2]
  by_cases hlen : l.length = m.length
  case neg =>
    have HR : Hid (R = false) := by rw [Hid, HR0.out, eqP_len _ _ (by rw [HPL.out.1, HPL.out.2]; exact hlen)]
    have e0 : ((l.length : Int) == (m.length : Int)) = false := by rw [beq_eq_false_iff_ne]; omega
    go_enter Try.func30, Try.ntmps30
    go_wp2
    all_goals try (exfalso; omega)
    go_ret
    exact ⟨ret_bool HR.out.symm, HF0.out⟩
  have HN2 : Hid (m.length = l.length) := hlen.symm
  have hd2 := HN2.out
  rw [hd2] at HX HF0 HROW HROW' HPL ⊢
  clear hd2 hlen
  generalize hn : l.length = n at *
  have HNN := Lib.hid hn
  clear hn
  go_enter Try.func30, Try.ntmps30
  go_wp2
  all_goals try (exfalso; omega)
  generalize (w.alloc (.cells #[.int .u64 s, .slice a n cap] 53)).alloc (.cells #[.int .u64 s, .slice a' n cap'] 53) = W0 at *
  obtain ⟨b, hb⟩ : ∃ b, b = w.heap.size := ⟨_, rfl⟩
  rw [← hb] at HX ⊢
  clear hb
  go_loopw [5] (fun a5 wr => ∃ (k : Nat), a5 = .int .i64 (k : Int) ∧ k ≤ n ∧ Hid (R = eqP ((pods2 l).drop k) ((pods2 m).drop k)) ∧ Hid (Fresh W0 wr)) (fun a5 _ => n - (intOf a5).toNat)
  case atStart => exact ⟨0, rfl, Nat.zero_le _, HR0.out, Fresh.refl _⟩
  case round =>
  obtain ⟨k, rfl, hk, HE, HF⟩ := hrel
  obtain ⟨b0, b1, _⟩ := st2_box (HF.out.at HX.out.1)
  obtain ⟨d0, d1, _⟩ := st2_box (HF.out.at HX.out.2.1)
  by_cases hltn : k < n
  case pos =>
    have hlt : k < l.length := by rw [HNN.out]; exact hltn
    have hlt' : k < m.length := by rw [HN2.out]; exact hltn
    have hR := HROW.out.move HF.out
    have hR' := HROW'.out.move HF.out
    obtain ⟨g, o1, rfl, hc⟩ := m2_form hR.row hlt
    obtain ⟨g', o1', rfl, hc'⟩ := m2_form hR'.row hlt'
    obtain ⟨c0, c1, c2, c3, c4, c5⟩ := hc k hlt
    obtain ⟨v0, v1, v2, v3, v4, v5⟩ := hc' k hlt'
    have HIN := Lib.hid (hR.ins _ (List.getElem_mem hlt)).1
    have HIN' := Lib.hid (hR'.ins _ (List.getElem_mem hlt')).1
    have HNL := Lib.hid (HCL.out _ (List.getElem_mem hlt))
    have hkp : k < (pods2 l).length := by rw [HPL.out.1]; exact hltn
    have hkp' : k < (pods2 m).length := by rw [HPL.out.2]; exact hltn
    have hpk : (pods2 l)[k] = l[k].p := by simp [pods2]
    have hpk' : (pods2 m)[k] = m[k].p := by simp [pods2]
    have HST : Hid (R = (P2.eqB l[k].p m[k].p && eqP ((pods2 l).drop (k + 1)) ((pods2 m).drop (k + 1)))) := by
      have := HE.out.trans (eqP_drop hkp hkp')
      rw [hpk, hpk'] at this; exact this
    clear hc hc' hR hR' hkp hkp' hpk hpk' HE
    generalize l[k] = p at *
    generalize m[k] = q at *
    clear hlt hlt'
    obtain ⟨⟨x0, x1, x2, x3, x4, xs⟩, xa, xc⟩ := p
    obtain ⟨⟨y0, y1, y2, y3, y4, ys⟩, ya, yc⟩ := q
    have HIN : Hid (RowAt wr xa (c2s xs)) := HIN.out
    have HIN' : Hid (RowAt wr ya (c2s ys)) := HIN'.out
    have HNL : xs.length ≤ 4000000 := HNL.out
    have HEB : Hid (P2.eqB ⟨x0, x1, x2, x3, x4, xs⟩ ⟨y0, y1, y2, y3, y4, ys⟩ = (decide (x0 = y0) && (decide (x1 = y1) && (decide (x2 = y2) && (decide (x3 = y3) && (decide (x4 = y4) && eqC xs ys)))))) := rfl
    have HST : Hid (R = (P2.eqB ⟨x0, x1, x2, x3, x4, xs⟩ ⟨y0, y1, y2, y3, y4, ys⟩ && eqP ((pods2 l).drop (k + 1)) ((pods2 m).drop (k + 1)))) := HST.out
    dsimp only at *
    have i1 : (0 : Int) ≤ (k : Int) := by omega
    have i2 : (k : Int) < (n : Int) := by omega
    generalize P2.eqB ⟨x0, x1, x2, x3, x4, xs⟩ ⟨y0, y1, y2, y3, y4, ys⟩ = SC at *
    obtain ⟨RR, hRR⟩ : ∃ RR, RR = eqP ((pods2 l).drop (k + 1)) ((pods2 m).drop (k + 1)) := ⟨_, rfl⟩
    rw [← hRR] at HST
    have HRR := Lib.hid hRR
    have HLE : Hid (¬ xs.length = ys.length → eqC xs ys = false) := fun h => eqC_len xs ys h
    have hgl : g < wr.heap.size := World.block_lt_of_cell? wr _ c0
    have hgl' : g' < wr.heap.size := World.block_lt_of_cell? wr _ v0
    have hbl : b + 1 < wr.heap.size := World.block_lt_of_cell? wr _ d0
    clear hRR
    generalize hxl : xs.length = xl at *
    generalize hyl : ys.length = yl at *
    have HXL := Lib.hid hxl
    have HYL := Lib.hid hyl
    clear hxl hyl
    go_wp2_with (fail)
    go_region_held3 (fun w' => (w'.cell? ⟨b, 1, none⟩ = some (.slice (some ⟨g, o1, none⟩) n cap) ∧ w'.cell? ⟨b + 1, 1, none⟩ = some (.slice (some ⟨g', o1', none⟩) n cap')
      ∧ w'.cell? ⟨g, o1 + k * 6, none⟩ = some (.string x0) ∧ w'.cell? ⟨g, o1 + k * 6 + 1, none⟩ = some (.string x1) ∧ w'.cell? ⟨g, o1 + k * 6 + 2, none⟩ = some (.string x2) ∧ w'.cell? ⟨g, o1 + k * 6 + 3, none⟩ = some (.int .u8 x3) ∧ w'.cell? ⟨g, o1 + k * 6 + 4, none⟩ = some (.int .u16 x4) ∧ w'.cell? ⟨g, o1 + k * 6 + 5, none⟩ = some (.slice xa xl xc)
      ∧ w'.cell? ⟨g', o1' + k * 6, none⟩ = some (.string y0) ∧ w'.cell? ⟨g', o1' + k * 6 + 1, none⟩ = some (.string y1) ∧ w'.cell? ⟨g', o1' + k * 6 + 2, none⟩ = some (.string y2) ∧ w'.cell? ⟨g', o1' + k * 6 + 3, none⟩ = some (.int .u8 y3) ∧ w'.cell? ⟨g', o1' + k * 6 + 4, none⟩ = some (.int .u16 y4) ∧ w'.cell? ⟨g', o1' + k * 6 + 5, none⟩ = some (.slice ya yl yc)))
      (first | go_keep | (refine ⟨?_, ?_, ?_, ?_, ?_, ?_, ?_, ?_, ?_, ?_, ?_, ?_, ?_, ?_⟩ <;> exact set6_cell (by assumption) (by omega)))
      (fail)
    all_goals
      clear b0 b1 d0 d1 c0 c1 c2 c3 c4 c5 v0 v1 v2 v3 v4 v5 i1 i2 hgl hgl' hbl
      first
      | (obtain ⟨V, hV⟩ : ∃ V, V = ((wr.alloc (.cells #[.string x0, .string x1, .string x2, .int .u8 x3, .int .u16 x4, .slice xa xl xc] 103)).alloc (.cells #[.string y0, .string y1, .string y2, .int .u8 y3, .int .u16 y4, .slice ya yl yc] 103)).drew := ⟨_, rfl⟩
         rw [← hV]
         have HB3 := Lib.hid (two_boxes wr (.cells #[.string x0, .string x1, .string x2, .int .u8 x3, .int .u16 x4, .slice xa xl xc] 103) (.cells #[.string y0, .string y1, .string y2, .int .u8 y3, .int .u16 y4, .slice ya yl yc] 103))
         obtain ⟨zy, hzq⟩ : ∃ z, z = wr.heap.size + 1 := ⟨_, rfl⟩
         obtain ⟨zx, hzp⟩ : ∃ z, z = wr.heap.size := ⟨_, rfl⟩
         rw [← hzq]
         rw [← hzp]
         have HBX : Hid (V.heap[zx]? = some (.cells #[.string x0, .string x1, .string x2, .int .u8 x3, .int .u16 x4, .slice xa xl xc] 103) ∧ V.heap[zy]? = some (.cells #[.string y0, .string y1, .string y2, .int .u8 y3, .int .u16 y4, .slice ya yl yc] 103)) := by rw [hV, hzp, hzq]; exact ⟨HB3.out.1, HB3.out.2.1⟩
         have HV : Hid (Fresh wr V) := by rw [hV]; exact HB3.out.2.2.1.drew
         clear HB3 hV hzp hzq)
      | (obtain ⟨V, hV⟩ : ∃ V, V = ((wr.alloc (.cells #[.string y0, .string y1, .string y2, .int .u8 y3, .int .u16 y4, .slice ya yl yc] 103)).alloc (.cells #[.string x0, .string x1, .string x2, .int .u8 x3, .int .u16 x4, .slice xa xl xc] 103)).drew := ⟨_, rfl⟩
         rw [← hV]
         have HB3 := Lib.hid (two_boxes wr (.cells #[.string y0, .string y1, .string y2, .int .u8 y3, .int .u16 y4, .slice ya yl yc] 103) (.cells #[.string x0, .string x1, .string x2, .int .u8 x3, .int .u16 x4, .slice xa xl xc] 103))
         obtain ⟨zx, hzq⟩ : ∃ z, z = wr.heap.size + 1 := ⟨_, rfl⟩
         obtain ⟨zy, hzp⟩ : ∃ z, z = wr.heap.size := ⟨_, rfl⟩
         rw [← hzq]
         rw [← hzp]
         have HBX : Hid (V.heap[zx]? = some (.cells #[.string x0, .string x1, .string x2, .int .u8 x3, .int .u16 x4, .slice xa xl xc] 103) ∧ V.heap[zy]? = some (.cells #[.string y0, .string y1, .string y2, .int .u8 y3, .int .u16 y4, .slice ya yl yc] 103)) := by rw [hV, hzp, hzq]; exact ⟨HB3.out.2.1, HB3.out.1⟩
         have HV : Hid (Fresh wr V) := by rw [hV]; exact HB3.out.2.2.1.drew
         clear HB3 hV hzp hzq)
      have HFV := Lib.hid ((HF0.out.trans HF.out).trans HV.out)
      have HFW := Lib.hid (HF.out.trans HV.out)
      have a0 := cell_of_at HBX.out.1 (i := 0) rfl
      have a1 := cell_of_at HBX.out.1 (i := 1) rfl
      have a2 := cell_of_at HBX.out.1 (i := 2) rfl
      have a3 := cell_of_at HBX.out.1 (i := 3) rfl
      have a4 := cell_of_at HBX.out.1 (i := 4) rfl
      have a5 := cell_of_at HBX.out.1 (i := 5) rfl
      have b0 := cell_of_at HBX.out.2 (i := 0) rfl
      have b1 := cell_of_at HBX.out.2 (i := 1) rfl
      have b2 := cell_of_at HBX.out.2 (i := 2) rfl
      have b3 := cell_of_at HBX.out.2 (i := 3) rfl
      have b4 := cell_of_at HBX.out.2 (i := 4) rfl
      have b5 := cell_of_at HBX.out.2 (i := 5) rfl
      have HIN := Lib.hid (HIN.out.move HV.out)
      have HIN' := Lib.hid (HIN'.out.move HV.out)
      clear HV
      by_cases h0 : x0 = y0
      case neg =>
        have HR : Hid (R = false) := by rw [Hid, HST.out, HEB.out, decide_eq_false h0]; simp
        have e1 := tl_ne h0
        clear HEB HST
        go_wp2
        all_goals try (exfalso; omega)
        go_ret
        exact ⟨ret_bool HR.out.symm, HFV.out⟩
      subst h0
      by_cases h1 : x1 = y1
      case neg =>
        have HR : Hid (R = false) := by rw [Hid, HST.out, HEB.out, decide_eq_false h1]; simp
        have e1 := tl_ne h1
        clear HEB HST
        go_wp2
        all_goals try (exfalso; omega)
        go_ret
        exact ⟨ret_bool HR.out.symm, HFV.out⟩
      subst h1
      by_cases h2 : x2 = y2
      case neg =>
        have HR : Hid (R = false) := by rw [Hid, HST.out, HEB.out, decide_eq_false h2]; simp
        have e1 := tl_ne h2
        clear HEB HST
        go_wp2
        all_goals try (exfalso; omega)
        go_ret
        exact ⟨ret_bool HR.out.symm, HFV.out⟩
      subst h2
      by_cases h3 : x3 = y3
      case neg =>
        have HR : Hid (R = false) := by rw [Hid, HST.out, HEB.out, decide_eq_false h3]; simp
        have e1 : (x3 == y3) = false := by rw [beq_eq_false_iff_ne]; exact h3
        clear HEB HST
        go_wp2
        all_goals try (exfalso; omega)
        go_ret
        exact ⟨ret_bool HR.out.symm, HFV.out⟩
      subst h3
      by_cases h4 : x4 = y4
      case neg =>
        have HR : Hid (R = false) := by rw [Hid, HST.out, HEB.out, decide_eq_false h4]; simp
        have e1 : (x4 == y4) = false := by rw [beq_eq_false_iff_ne]; exact h4
        clear HEB HST
        go_wp2
        all_goals try (exfalso; omega)
        go_ret
        exact ⟨ret_bool HR.out.symm, HFV.out⟩
      subst h4
      by_cases h5 : xl = yl
      case neg =>
        have HR : Hid (R = false) := by rw [Hid, HST.out, HEB.out, HLE.out h5]; simp
        have e1 : ((xl : Int) == (yl : Int)) = false := by rw [beq_eq_false_iff_ne]; omega
        clear HEB h5 HST
        go_wp2
        all_goals try (exfalso; omega)
        go_ret
        exact ⟨ret_bool HR.out.symm, HFV.out⟩
      subst h5
      have HS2 : Hid (R = (eqC (xs.drop 0) (ys.drop 0) && RR)) := by rw [Hid, HST.out, HEB.out]; simp
      clear HST HEB HLE
      go_wp2
      all_goals try (exfalso; omega)
      clear a0 a1 a2 a3 a4 a5 b0 b1 b2 b3 b4 b5
      go_loopw [8] (fun a8 wv => ∃ (j : Nat), a8 = .int .i64 (j : Int) ∧ j ≤ xl ∧ Hid (R = (eqC (xs.drop j) (ys.drop j) && RR)) ∧ Hid (Fresh V wv)) (fun a8 _ => xl - (intOf a8).toNat)
      case atStart => exact ⟨0, rfl, Nat.zero_le _, HS2.out, Fresh.refl _⟩
      case round =>
      clear HS2
      obtain ⟨j, rfl, hj, HEJ, HF2⟩ := hrel
      have a5 := cell_of_at (HF2.out.at HBX.out.1) (i := 5) rfl
      have b5 := cell_of_at (HF2.out.at HBX.out.2) (i := 5) rfl
      by_cases hjlt : j < xl
      case pos =>
        have hj1 : j < xs.length := by rw [HXL.out]; exact hjlt
        have hj2 : j < ys.length := by rw [HYL.out]; exact hjlt
        obtain ⟨gc, oc, rfl, hcc⟩ := c2_form (HIN.out.move HF2.out) hj1
        obtain ⟨gd, od, rfl, hcd⟩ := c2_form (HIN'.out.move HF2.out) hj2
        obtain ⟨l0, l1⟩ := hcc j hj1
        obtain ⟨r0, r1⟩ := hcd j hj2
        have HS3 : Hid (R = ((C2.eqB xs[j] ys[j] && eqC (xs.drop (j + 1)) (ys.drop (j + 1))) && RR)) := by rw [Hid, HEJ.out, eqC_drop hj1 hj2]
        clear hcc hcd HEJ
        generalize xs[j] = cx at *
        generalize ys[j] = cy at *
        clear hj1 hj2
        obtain ⟨e1, e2⟩ := cx
        obtain ⟨f1, f2⟩ := cy
        have HS3 : Hid (R = (((decide (e1 = f1) && decide (e2 = f2)) && eqC (xs.drop (j + 1)) (ys.drop (j + 1))) && RR)) := HS3.out
        dsimp only at *
        have i1 : (0 : Int) ≤ (j : Int) := by omega
        have i2 : (j : Int) < (xl : Int) := by omega
        by_cases h1 : e1 = f1
        case neg =>
          have HR : Hid (R = false) := by rw [Hid, HS3.out, decide_eq_false h1]; rfl
          have e1 := tl_ne h1
          clear HS3 h1
          go_wp2_with (fail)
          all_goals try (exfalso; omega)
          go_quiet (fail)
          go_wp2
          all_goals try (exfalso; omega)
          go_ret
          exact ⟨ret_bool HR.out.symm, (HFV.out.trans HF2.out).trans (fresh_drewN _ _)⟩
        subst h1
        by_cases h2 : e2 = f2
        case neg =>
          have HR : Hid (R = false) := by rw [Hid, HS3.out, decide_eq_false h2]; simp
          have e1 := tl_ne h2
          clear HS3 h2
          go_wp2_with (fail)
          all_goals try (exfalso; omega)
          go_quiet (fail)
          go_wp2
          all_goals try (exfalso; omega)
          go_ret
          exact ⟨ret_bool HR.out.symm, (HFV.out.trans HF2.out).trans (fresh_drewN _ _)⟩
        subst h2
        have HN : Hid (R = (eqC (xs.drop (j + 1)) (ys.drop (j + 1)) && RR)) := by rw [Hid, HS3.out]; simp
        clear HS3
        go_wp2_with (fail)
        all_goals try (exfalso; omega)
        go_quiet (fail)
        go_wp2
        all_goals try (exfalso; omega)
        go_roundw
        case rel => exact ⟨j + 1, by simp, by omega, HN.out, HF2.out.trans (fresh_drewN _ _)⟩
        case measure => simp [intOf]; omega
      case neg =>
        obtain rfl : j = xl := by omega
        have HN : Hid (R = eqP ((pods2 l).drop (k + 1)) ((pods2 m).drop (k + 1))) := by
          rw [Hid, HEJ.out, List.drop_of_length_le (by rw [HXL.out]; exact Nat.le_refl _), List.drop_of_length_le (by rw [HYL.out]; exact Nat.le_refl _), ← HRR.out]; rfl
        clear HEJ
        go_wp2
        all_goals try (exfalso; omega)
        go_roundw
        case rel => exact ⟨k + 1, by simp, by omega, HN.out, HFW.out.trans HF2.out⟩
        case measure => simp [intOf]; omega
  case neg =>
    obtain rfl : k = n := by omega
    have HR : Hid (R = true) := by rw [Hid, HE.out, List.drop_of_length_le (by rw [HPL.out.1]; exact Nat.le_refl _), List.drop_of_length_le (by rw [HPL.out.2]; exact Nat.le_refl _)]; rfl
    go_wp2
    all_goals try (exfalso; omega)
    go_ret
    exact ⟨ret_bool HR.out.symm, HF0.out.trans HF.out⟩
end Go.Proofs.Ytphjhlnjfcfdcaa
namespace Go.Proofs.Ytphjhlnjfcfdcaa
open Go.ChangeShapes Go.WideShapes Go.ChangeAt Go.RowKit

/-- A row of pods that hold that. -/
def AtL (L : List P2) (w : World) (a : Option Addr) : Prop := ∃ D, pods2 D = L ∧ Row2 w a D
theorem AtL.move {L : List P2} {w w' : World} {a : Option Addr} (h : AtL L w a) (f : Fresh w w') : AtL L w' a := by
  obtain ⟨D, h1, h2⟩ := h
  exact ⟨D, h1, h2.move f⟩
theorem AtL.nil (w : World) (a : Option Addr) : AtL [] w a := ⟨[], rfl, Row2.nil _ _⟩
theorem pods2_length (D : List M2) : (pods2 D).length = D.length := by simp [pods2]
theorem pods2_mem {D : List M2} {m : M2} (h : m ∈ D) : m.p ∈ pods2 D := List.mem_map_of_mem h
/-- What Decode answers, by what it holds. -/
def DecAt (b : ByteArray) (w : World) (r : Ending) (w' : World) : Prop :=
  ∃ a c, r = .returned (.tuple #[st2 (dec2 b).2.1 a (dec2 b).2.2.length c, .int .i64 (dec2 b).1]) ∧ AtL (dec2 b).2.2 w' a ∧ Fresh w w'
theorem decIs_at {b : ByteArray} {w : World} : ∀ r w', DecIs2 b w r w' → DecAt b w r w' := fun r w' ⟨a, c, D, h1, h2, h3, h4⟩ => by
  refine ⟨a, c, ?_, ⟨D, h2, h3⟩, h4⟩
  rw [h1, ← h2, pods2_length]
theorem decode2_at (b : ByteArray) (w : World) (hb : b.size ≤ maxLen) : Calls Try.prog 31 #[.string b] w (DecAt b w) := (decode2_any b w hb).mono decIs_at
theorem rdecode2_at (b : ByteArray) (w : World) (hb : b.size ≤ maxLen) : Calls Try.prog 32 #[.string b] w (DecAt b w) := (rdecode2_any b w hb).mono decIs_at
theorem of2_at (seq : Int) (a : Option Addr) (L : List P2) (c : Nat) (w : World) (h : AtL L w a) (hl : L.length ≤ 4000000) (hcl : ∀ p ∈ L, p.cs.length ≤ 4000000) :
    Calls Try.prog 24 #[st2 seq a L.length c] w fun r w' => ∃ a c, r = .returned (st2 seq a L.length c) ∧ AtL L w' a ∧ Fresh w w' := by
  obtain ⟨D, rfl, hr⟩ := h
  rw [pods2_length] at hl ⊢
  refine (of2_any seq a D c w hr hl (fun m hm => hcl _ (pods2_mem hm))).mono ?_
  rintro r w' ⟨a, c, E, rfl, h1, h2, h3, h4⟩
  have hlen : E.length = D.length := by rw [← pods2_length E, h1, pods2_length]
  exact ⟨a, c, by rw [hlen], ⟨E, h1, RowAt.owns h2, fun m hm => (h3 m hm).in⟩, h4⟩
theorem rsame2_at (s t : Int) (L M : List P2) (a a' : Option Addr) (c c' : Nat) (w : World) (h : AtL L w a) (h' : AtL M w a') (hl : L.length ≤ 4000000) (hcl : ∀ p ∈ L, p.cs.length ≤ 4000000) :
    Calls Try.prog 30 #[st2 s a L.length c, st2 t a' M.length c'] w fun e w' => e = .returned (.bool (same2 s t L M)) ∧ Fresh w w' := by
  obtain ⟨D, rfl, hr⟩ := h
  obtain ⟨E, rfl, hr'⟩ := h'
  rw [pods2_length] at hl ⊢
  rw [pods2_length]
  exact rsame2_any s t D E a a' c c' w hr hr' hl (fun m hm => hcl _ (pods2_mem hm))
theorem encode2_at_ok (seq : Int) (a : Option Addr) (L : List P2) (c : Nat) (w : World) (h : AtL L w a) (hf : ∀ p ∈ L, p.Fit maxLen) (h0 : chk2 L = 0) (hs0 : 0 ≤ seq) (hs1 : seq ≤ 18446744073709551615) :
    Calls Try.prog 26 #[st2 seq a L.length c] w fun e w' => e = .returned (.tuple #[.string (tx (enc2L seq L)), .int .i64 0]) ∧ Fresh w w' := by
  obtain ⟨D, rfl, hr⟩ := h
  rw [pods2_length]
  exact encode2_ok seq a D c w hr (fun m hm => hf _ (pods2_mem hm)) h0 hs0 hs1
theorem encode2_at_bad (seq : Int) (a : Option Addr) (L : List P2) (c : Nat) (w : World) (h : AtL L w a) (hf : ∀ p ∈ L, p.Fit maxLen) (h0 : chk2 L ≠ 0) :
    Calls Try.prog 26 #[st2 seq a L.length c] w fun e w' => e = .returned (.tuple #[.string ⟨#[]⟩, .int .i64 (chk2 L)]) ∧ Fresh w w' := by
  obtain ⟨D, rfl, hr⟩ := h
  rw [pods2_length]
  exact encode2_bad seq a D c w hr (fun m hm => hf _ (pods2_mem hm)) h0
theorem small2_at (seq : Int) (a : Option Addr) (L : List P2) (c : Nat) (w : World) (h : AtL L w a) (hf : ∀ p ∈ L, p.Fit 140737488355328) (hl : L.length ≤ maxLen) (hcl : ∀ p ∈ L, p.cs.length ≤ maxLen) :
    Calls Try.prog 22 #[st2 seq a L.length c] w fun e w' => e = .returned (.bool (smB 0 L)) ∧ Fresh w w' := by
  obtain ⟨D, rfl, hr⟩ := h
  rw [pods2_length] at hl ⊢
  exact small2_any seq a D c w hr (fun m hm => hf _ (pods2_mem hm)) hl (fun m hm => hcl _ (pods2_mem hm))
end Go.Proofs.Ytphjhlnjfcfdcaa
namespace Go.Proofs.Ytphjhlnjfcfdcaa
open Go.ChangeShapes Go.WideShapes Go.ChangeAt Go.RowKit
set_option maxRecDepth 100000

theorem same2_self (q : Int) (L : List P2) : same2 q q L L = true := by
  unfold same2
  rw [eqP_self, decide_eq_true rfl]; rfl
set_option maxHeartbeats 8000000 in
theorem reads2_any (b : ByteArray) (w : World) (hb : b.size ≤ maxLen) : Calls Try.prog 7 #[.string b] w fun e w' => e = .returned (.bool true) ∧ Fresh w w' := by
  have HAW := Lib.hid (fun W => awake18_any W)
  by_cases hbig : 20000 < b.size
  · go_enter Try.func7, Try.ntmps7
    unfold maxLen at hb
    go_wp2_with (fail)
    all_goals try (exfalso; omega)
    refine (HAW.out _).mono ?_
    rintro e w1 ⟨rfl, hf⟩
    go_wp2
    go_ret
    exact ⟨rfl, hf⟩
  have H1 := Lib.hid (fun W => decode2_at b W hb)
  have H2 := Lib.hid (fun W => rdecode2_at b W hb)
  have HFI := Lib.hid (dec2_fit b)
  unfold DecAt at H1 H2
  have hbs : b.size ≤ 20000 := by omega
  clear hb
  obtain ⟨C, q, L, hR⟩ : ∃ C q L, dec2 b = (C, q, L) := ⟨_, _, _, rfl⟩
  rw [hR] at H1 H2 HFI
  clear hR
  dsimp only at H1 H2 HFI
  have hll : L.length ≤ 1024 := HFI.out.2.1
  have hcl : ∀ p ∈ L, p.cs.length ≤ 4000000 := fun p hp => Nat.le_trans (HFI.out.1 p hp).2 (by decide)
  go_enter Try.func7, Try.ntmps7
  go_wp2_with (fail)
  all_goals try (exfalso; omega)
  refine (H1.out _).mono ?_
  rintro e w1 ⟨a, c, rfl, hrow, hf⟩
  have HROW := Lib.hid hrow
  have HF1 := Lib.hid (hf.alloc (.cells #[.int .u64 q, .slice a L.length c] 49))
  have HB1 := Lib.hid (at_new w1 (.cells #[.int .u64 q, .slice a L.length c] 49))
  have HR1 := Lib.hid (hrow.move ((Fresh.refl w1).alloc (.cells #[.int .u64 q, .slice a L.length c] 49)))
  clear hrow hf HROW
  dsimp only [st2]
  go_wp2_with (fail)
  generalize w1.alloc (.cells #[.int .u64 q, .slice a L.length c] 49) = V1 at *
  obtain ⟨z1, hz1⟩ : ∃ z1, z1 = w1.heap.size := ⟨_, rfl⟩
  rw [← hz1] at HB1 ⊢
  clear hz1
  refine (H2.out _).mono ?_
  rintro e w2 ⟨a', c', rfl, hrow, hf⟩
  have HF2 := Lib.hid ((HF1.out.trans hf).alloc (.cells #[.int .u64 q, .slice a' L.length c'] 53))
  have HB1 := Lib.hid (at_alloc (p := .cells #[.int .u64 q, .slice a' L.length c'] 53) (hf.at HB1.out))
  have HB2 := Lib.hid (at_new w2 (.cells #[.int .u64 q, .slice a' L.length c'] 53))
  have HR1 := Lib.hid ((HR1.out.move hf).move ((Fresh.refl w2).alloc (.cells #[.int .u64 q, .slice a' L.length c'] 53)))
  have HR2 := Lib.hid (hrow.move ((Fresh.refl w2).alloc (.cells #[.int .u64 q, .slice a' L.length c'] 53)))
  clear hrow hf HF1
  dsimp only [st2]
  go_wp2_with (fail)
  generalize w2.alloc (.cells #[.int .u64 q, .slice a' L.length c'] 53) = V2 at *
  obtain ⟨z2, hz2⟩ : ∃ z2, z2 = w2.heap.size := ⟨_, rfl⟩
  rw [← hz2] at HB2 ⊢
  clear hz2
  have HOF : Hid (∀ W, Fresh V2 W → Calls Try.prog 24 #[.agg #[.int .u64 q, .slice a L.length c]] W fun r w' => ∃ a c, r = .returned (.agg #[.int .u64 q, .slice a L.length c]) ∧ AtL L w' a ∧ Fresh W w') := fun W f => of2_at q a L c W (HR1.out.move f) (by omega) hcl
  have HSM : Hid (∀ W a2 c2, Fresh V2 W → AtL L W a2 → Calls Try.prog 30 #[.agg #[.int .u64 q, .slice a2 L.length c2], .agg #[.int .u64 q, .slice a' L.length c']] W fun e w' => e = .returned (.bool true) ∧ Fresh W w') := fun W a2 c2 f h => by
    have := rsame2_at q q L L a2 a' c2 c' W h (HR2.out.move f) (by omega) hcl
    rw [same2_self] at this
    exact this
  have HKP : Hid (∀ W, Fresh V2 W → W.cell? ⟨z1, 0, none⟩ = some (.int .u64 q) ∧ W.cell? ⟨z1, 1, none⟩ = some (.slice a L.length c) ∧ W.cell? ⟨z2, 0, none⟩ = some (.int .u64 q) ∧ W.cell? ⟨z2, 1, none⟩ = some (.slice a' L.length c')) := fun W f =>
    ⟨(st2_box (f.at HB1.out)).1, (st2_box (f.at HB1.out)).2.1, (st2_box (f.at HB2.out)).1, (st2_box (f.at HB2.out)).2.1⟩
  obtain ⟨k0, k1, k2, k3⟩ := HKP.out V2 (.refl _)
  have HK : Hid (Fresh V2 V2.drew) := (Fresh.refl V2).drew
  generalize hn : L.length = n at *
  go_region_held3 (fun w' => (w'.cell? ⟨z1, 0, none⟩ = some (.int .u64 q) ∧ w'.cell? ⟨z1, 1, none⟩ = some (.slice a n c) ∧ w'.cell? ⟨z2, 0, none⟩ = some (.int .u64 q) ∧ w'.cell? ⟨z2, 1, none⟩ = some (.slice a' n c'))) (go_keep)
    (first
      | (go_at_call 23; (with_reducible refine (HAW.out _).mono ?_); rintro e W2 ⟨rfl, hf⟩; have HK := Lib.hid (HK.out.trans hf); obtain ⟨k0, k1, k2, k3⟩ := HKP.out _ HK.out; clear hf)
      | (go_at_call 24; (with_reducible refine (HOF.out _ HK.out).mono ?_); rintro e W2 ⟨a2, c2, rfl, hown, hf⟩; have HRQ := Lib.hid hown; have HK := Lib.hid (HK.out.trans hf); obtain ⟨k0, k1, k2, k3⟩ := HKP.out _ HK.out; clear hf hown)
      | (go_at_call 30; (with_reducible refine (HSM.out _ _ _ HK.out HRQ.out).mono ?_); rintro e W2 ⟨rfl, hf⟩; have HK := Lib.hid (HK.out.trans hf); obtain ⟨k0, k1, k2, k3⟩ := HKP.out _ HK.out; clear hf))
  all_goals go_wp2
  all_goals go_ret
  all_goals exact ⟨rfl, HF2.out.trans HK.out⟩
end Go.Proofs.Ytphjhlnjfcfdcaa
namespace Go.Proofs.Ytphjhlnjfcfdcaa.cktwoReads
open Go.ChangeShapes Go.WideShapes Go.ChangeAt Go.RowKit
open Go.ChangeMaps (open_string shut_string)
set_option linter.unusedVariables false

theorem own : ownKnob Try.prog.godebug = none := by kernel_rfl

/-! ### From the walk to the row -/
set_option maxRecDepth 100000 in
theorem lifted (os : Os) (started : os.Started) (H : Type) (enc : TypeId × Value → H) :
    ReturnsInHanded {} Try.checked os 7 .any (Rows.cktwoReadsSpec.pre6 enc Try.prog Try.f7 Rows.cktwoReadsRow.domain false) (Rows.cktwoReadsSpec.post enc Try.prog Try.f7 false true false false) := by
  refine returnsInHanded_of_change (C := Try.checked) own started (by kernel_rfl) Try.func7
    (ChangeSpec.witness6 (enc := enc) (C := Try.checked) false ⟨#[], #[.string ByteArray.empty], []⟩ 8 (by kernel_rfl) (by kernel_rfl) (by kernel_rfl) (by kernel_rfl)) ?_
  intro W base args ds gs before hval0 hW hcnd _
  have hval : ∀ (j : Nat) t v, Try.f7.params[j]? = some t → args[j]? = some v → Value.okWide Try.prog W .any base t v := hval0
  have hW' := hW
  obtain ⟨p, q, hA0, hV, rfl, hfz, hnd⟩ := hW
  have hA : DataW.TrodAll enc Try.prog W 0 (fun _ => true) true Try.f7.params.toList args.toList ds p := hA0
  rw [Try.params7] at hA hval
  obtain ⟨v0, vs0, d0, ds0, p0, q0, hargs, rfl, rfl, h0, r0⟩ := trodAll_cons hA
  obtain ⟨rfl, rfl, rfl⟩ := trodAll_nil r0
  obtain rfl : args = #[v0] := by cases args; simp_all
  obtain ⟨rfl, rfl⟩ := trodVars_none hV
  obtain ⟨a0, rfl, rfl, rfl, w0⟩ := open_string Try.underlying9 (hval 0 9 v0 rfl rfl) h0
  clear hA0 hval0
  simp only [List.append_nil] at hW'
  refine (reads2_any a0 W w0).mono fun e W' ⟨he, hg⟩ => ?_
  subst he
  exact ⟨_, rfl, _, _, _, [], _, [], hW', trodAll_mk1 (shut_bool Try.underlying4 _), (trodAll_cons_mk (shut_string Try.underlying9 w0) trodAll_mk0), rfl, Below.frame hg _, fun h => by cases h⟩

theorem cktwoReads_holds : Rows.CktwoReadsSaid :=
  OpenClaim.holds_of_wide 7 Try.f7 rfl rfl rfl rfl rfl rfl rfl ⟨rfl, rfl, rfl, rfl, rfl⟩ rfl rfl rfl rfl rfl (by kernel_rfl) Try.func7 (by kernel_rfl)
    (of_decide_eq_true (by kernel_rfl)) (by unfold Func.isWrapper; first | (rw [if_pos (by decide +kernel)]; kernel_rfl) | (rw [if_neg (by decide +kernel)]; exact ⟨rfl, rfl⟩))
    (fun os started H enc _ => lifted os started H enc)
#print axioms cktwoReads_holds
end Go.Proofs.Ytphjhlnjfcfdcaa.cktwoReads
