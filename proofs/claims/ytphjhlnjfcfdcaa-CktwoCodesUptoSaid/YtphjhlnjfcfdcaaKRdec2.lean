/-
  The document's Decode for version 1, walked.
-/
import Derived.Test.YtphjhlnjfcfdcaaKRdec
namespace Go.Proofs.Ytphjhlnjfcfdcaa
open Go.ChangeShapes Go.WideShapes Go.ChangeAt Go.RowKit
set_option maxRecDepth 100000

set_option maxHeartbeats 8000000 in
theorem rdecode_any (b : ByteArray) (w : World) (hb : b.size ≤ maxLen) : Calls Try.prog 21 #[.string b] w (DecIs b w) := by
  obtain ⟨s1, s2, s3, e1, e2, e3, q, n, L, hD⟩ := dec1T b
  obtain ⟨⟨hq0, hq1⟩, hn0, hn1⟩ := hD.vals
  have HEQ := Lib.hid (decT_eq hD)
  have HTH := Lib.hid hD
  have HLE := Lib.hid hD.le
  have HZ := Lib.hid (fun h => hD.zero h)
  have hwq := wrap_u32 hq0 hq1
  have HFT : Hid (∀ p ∈ L, p.Fit 4096) := fun p hp => podsT_fit n.toNat s2 e2 p (by rw [hD.h3]; exact hp)
  have HLEN : Hid (L.length = n.toNat) := by
    have := podsT_len n.toNat s2 e2
    rw [hD.h3] at this; exact this
  clear hD
  unfold DecIs
  generalize decT b = R at *
  have ht0 : ((w.alloc (.cells #[.int .u32 0, .slice none 0 0] 30)).alloc (.cells #[.string b, .int .i64 0] 89)).heap[w.heap.size + 1]? = some (.cells #[.string b, .int .i64 0] 89) := by
    have := at_new (w.alloc (.cells #[.int .u32 0, .slice none 0 0] 30)) (.cells #[.string b, .int .i64 0] 89)
    rw [World.size_alloc] at this
    exact this
  have HA := Lib.hid (at_alloc (p := .cells #[.string b, .int .i64 0] 89) (at_new w (.cells #[.int .u32 0, .slice none 0 0] 30)))
  have HF0 := Lib.hid (((Fresh.refl w).alloc (.cells #[.int .u32 0, .slice none 0 0] 30)).alloc (.cells #[.string b, .int .i64 0] 89))
  have HT0 := Lib.hid ht0
  clear ht0
  go_enter Try.func21, Try.ntmps21
  go_wp2_with (fail)
  generalize (w.alloc (.cells #[.int .u32 0, .slice none 0 0] 30)).alloc (.cells #[.string b, .int .i64 0] 89) = W0 at *
  obtain ⟨z, hz⟩ : ∃ z, z = w.heap.size := ⟨_, rfl⟩
  have HZW := Lib.hid hz
  rw [← hz] at HA HT0 ⊢
  clear hz
  refine (rtake_at _ hb HTH.out.h1).mono ?_
  rintro r w1 ⟨rfl, hf1⟩
  have HA1 := Lib.hid (hf1.at HA.out)
  have HF1 := Lib.hid (HF0.out.trans hf1)
  have ht1 := hf1.at HT0.out
  have c0 := cell_of_at ht1 (i := 0) rfl
  have c1 := cell_of_at ht1 (i := 1) rfl
  have f0 := frozen_of_at ht1 0
  have f1 := frozen_of_at ht1 1
  have HT1 := Lib.hid ht1
  clear hf1 ht1 HA HF0 HT0
  go_wp2_with (fail)
  have ht2 : ((w1.setCell ⟨z + 1, 0, none⟩ (.string s1)).setCell ⟨z + 1, 1, none⟩ (.int .i64 e1)).heap[z + 1]? = some (.cells #[.string s1, .int .i64 e1] 89) := at_set (at_set HT1.out 0 _) 1 _
  have HA2 := Lib.hid (at_off (at_off HA1.out (show z ≠ z + 1 by omega) (i := 0) (.string s1)) (show z ≠ z + 1 by omega) (i := 1) (.int .i64 e1))
  have HF2 := Lib.hid ((HF1.out.setCell (p := ⟨z + 1, 0, none⟩) (by show w.heap.size ≤ z + 1; have := HZW.out; omega) (.string s1)).setCell (p := ⟨z + 1, 1, none⟩) (by show w.heap.size ≤ z + 1; have := HZW.out; omega) (.int .i64 e1))
  have HT2 := Lib.hid ht2
  clear ht2 c0 c1 f0 f1 HA1 HF1 HT1
  generalize (w1.setCell ⟨z + 1, 0, none⟩ (.string s1)).setCell ⟨z + 1, 1, none⟩ (.int .i64 e1) = W2 at *
  refine (rtake_at _ (Nat.le_trans HLE.out.1 hb) HTH.out.h2).mono ?_
  rintro r w3 ⟨rfl, hf3⟩
  have HA3 := Lib.hid (hf3.at HA2.out)
  have HF3 := Lib.hid (HF2.out.trans hf3)
  have ht3 := hf3.at HT2.out
  have c0 := cell_of_at ht3 (i := 0) rfl
  have c1 := cell_of_at ht3 (i := 1) rfl
  have f0 := frozen_of_at ht3 0
  have f1 := frozen_of_at ht3 1
  have HT3 := Lib.hid ht3
  clear hf3 ht3 HA2 HF2 HT2
  have ht4 : ((w3.setCell ⟨z + 1, 0, none⟩ (.string s2)).setCell ⟨z + 1, 1, none⟩ (.int .i64 e2)).heap[z + 1]? = some (.cells #[.string s2, .int .i64 e2] 89) := at_set (at_set HT3.out 0 _) 1 _
  have HA4 := Lib.hid (at_off (at_off HA3.out (show z ≠ z + 1 by omega) (i := 0) (.string s2)) (show z ≠ z + 1 by omega) (i := 1) (.int .i64 e2))
  have HF4 := Lib.hid ((HF3.out.setCell (p := ⟨z + 1, 0, none⟩) (by show w.heap.size ≤ z + 1; have := HZW.out; omega) (.string s2)).setCell (p := ⟨z + 1, 1, none⟩) (by show w.heap.size ≤ z + 1; have := HZW.out; omega) (.int .i64 e2))
  have HT4 := Lib.hid ht4
  have q0 := cell_of_at HA4.out (i := 0) rfl
  have q1 := cell_of_at HA4.out (i := 1) rfl
  have g0 := frozen_of_at HA4.out 0
  have g1 := frozen_of_at HA4.out 1
  clear ht4
  by_cases hm : 1024 < n
  · have HR : Hid (R = (18, 0, [])) := by rw [Hid, HEQ.out, if_pos hm]
    clear HEQ
    go_wp2
    all_goals try (exfalso; omega)
    refine bodyPost_ret (v := .tuple #[st1 0 none 0 0, .int .i64 18]) (by simp [results, Try.results21, go_sem, st1, *]) rfl ⟨none, 0, ?_, ?_, ?_⟩
    · rw [HR.out]; rfl
    · rw [HR.out]; exact .nil _ _
    · exact (HF4.out.setCell (p := ⟨z, 0, none⟩) (by show w.heap.size ≤ z; rw [HZW.out]; exact Nat.le_refl _) _).setCell (p := ⟨z, 1, none⟩) (by show w.heap.size ≤ z; rw [HZW.out]; exact Nat.le_refl _) _
  have HR0 : Hid (R = if endT s3 e3 ≠ 0 then (endT s3 e3, 0, []) else if chk1 L ≠ 0 then (chk1 L, 0, []) else (0, q, L)) := by rw [Hid, HEQ.out, if_neg hm]
  clear HEQ
  obtain ⟨N, rfl⟩ := Int.eq_ofNat_of_zero_le hn0
  have hN : N ≤ 1024 := by omega
  clear hm hn0 hn1
  have hwn : wrap64 (N : Int) = (N : Int) := by unfold wrap64; omega
  go_wp2
  all_goals try (exfalso; omega)
  clear q0 q1 g0 g1 c0 c1 f0 f1
  obtain ⟨y, hy⟩ : ∃ y, y = w3.heap.size := ⟨_, rfl⟩
  have hDS : DS w (((w3.setCell ⟨z + 1, 0, none⟩ (.string s2)).setCell ⟨z + 1, 1, none⟩ (.int .i64 e2)).alloc (.cells #[.int .u32 q, .slice none 0 0] 30)) z y s2 e2 q none 0 0 [] := by
    have hsz : ((w3.setCell ⟨z + 1, 0, none⟩ (.string s2)).setCell ⟨z + 1, 1, none⟩ (.int .i64 e2)).heap.size = y := by rw [hy]; simp
    refine ⟨HZW.out, ?_, at_alloc HA4.out, at_alloc HT4.out, ?_, World.ownsRow_nil _ _ _ _, HF4.out.alloc _⟩
    · have := lt_of_at HT3.out; rw [hy]; exact this
    · have := at_new ((w3.setCell ⟨z + 1, 0, none⟩ (.string s2)).setCell ⟨z + 1, 1, none⟩ (.int .i64 e2)) (.cells #[.int .u32 q, .slice none 0 0] 30)
      rw [hsz] at this; exact this
  rw [← hy]
  clear hy
  have HDS := Lib.hid hDS
  clear hDS HA4 HF4 HT4 HA3 HF3 HT3
  generalize ((w3.setCell ⟨z + 1, 0, none⟩ (.string s2)).setCell ⟨z + 1, 1, none⟩ (.int .i64 e2)).alloc (.cells #[.int .u32 q, .slice none 0 0] 30) = V0 at *
  have HS2 : Hid (s2.size ≤ maxLen) := Nat.le_trans HLE.out.2 hb
  have HZ2 : Hid (e2 ≠ 0 → N = 0) := fun h => by have := HZ.out h; omega
  have H3 : Hid (podsT N s2 e2 = (s3, e3, L)) := by have := HTH.out.h3; rw [Int.toNat_natCast] at this; exact this
  obtain ⟨i0, hi, hz0, hz1, hz2⟩ := info_parts info2
  clear HTH HLE HZ HLEN
  go_loopw [8] (fun a8 wr => ∃ (k : Nat) (s : ByteArray) (e : Int) (o : Option Addr) (c : Nat) (D : List P1), a8 = .int .i64 (k : Int) ∧ k ≤ N ∧ Hid (e2 ≠ 0 → k = 0) ∧ Hid (s.size ≤ maxLen) ∧ Hid (D.length = k) ∧ Hid (podsT N s2 e2 = aheadT D (podsT (N - k) s e)) ∧ Hid (DS w wr z y s e q o k c D)) (fun a8 _ => N - (intOf a8).toNat)
  case atStart => exact ⟨0, s2, e2, none, 0, [], rfl, Nat.zero_le _, fun _ => rfl, HS2.out, rfl, rfl, HDS.out⟩
  case round =>
    clear HDS HS2
    obtain ⟨k, s, e, o, c, D, rfl, hk, HE0, HS, HD, HE, HDS⟩ := hrel
    obtain ⟨c0, c1, f0, f1⟩ := HDS.out.tc
    by_cases hend : k < N ∧ e = 0
    case pos =>
      obtain ⟨hlt, rfl⟩ := hend
      obtain ⟨s1', s2', s3', s4, x1, x2, x3, e1', e2', e3', e4, v, hT⟩ := pod1T s 0
      obtain ⟨hv0, hv1⟩ := hT.v
      have HTT := Lib.hid hT
      have HST := Lib.hid (HE.out.trans (podsT_step hlt (podT_eq hT.h1 hT.h2 hT.h3 hT.h4) D))
      have HLE := Lib.hid hT.le
      have hw8 := wrap_u8 hv0 hv1
      have HDP := Lib.hid HDS.out.pod
      have hzl := lt_of_at HDS.out.t
      clear hT HE
      go_wp2_with (fail)
      all_goals try (exfalso; omega)
      generalize wr.alloc (.cells #[.string ⟨#[]⟩, .string ⟨#[]⟩, .string ⟨#[]⟩, .int .u8 0] 67) = V1 at *
      obtain ⟨pb, hpb⟩ : ∃ pb, pb = wr.heap.size := ⟨_, rfl⟩
      rw [← hpb] at HDP ⊢
      clear hpb c0 c1 f0 f1 hzl
      have hn1 : ¬ z + 1 = pb := by have := HDP.out.h1; have := HDP.out.h2; omega
      have hn2 : ¬ pb = z + 1 := fun h => hn1 h.symm
      refine (rtext_at _ HS.out HTT.out.h1).mono ?_
      rintro r w4 ⟨rfl, hf⟩
      have HDP := Lib.hid (HDP.out.fresh hf)
      obtain ⟨c0, c1, f0, f1⟩ := HDP.out.tc
      obtain ⟨⟨p0, p1, p2, p3⟩, g0, g1, g2, g3⟩ := HDP.out.pc
      clear hf
      go_wp2_with (fail)
      have HDP := Lib.hid ((HDP.out.setT s1' e1').set0 x1)
      clear c0 c1 f0 f1 p0 p1 p2 p3 g0 g1 g2 g3
      generalize ((w4.setCell ⟨z + 1, 0, none⟩ (.string s1')).setCell ⟨z + 1, 1, none⟩ (.int .i64 e1')).setCell ⟨pb, 0, none⟩ (.string x1) = V2 at *
      refine (rtext_at _ (Nat.le_trans HLE.out.1.1 HS.out) HTT.out.h2).mono ?_
      rintro r w5 ⟨rfl, hf⟩
      have HDP := Lib.hid (HDP.out.fresh hf)
      obtain ⟨c0, c1, f0, f1⟩ := HDP.out.tc
      obtain ⟨⟨p0, p1, p2, p3⟩, g0, g1, g2, g3⟩ := HDP.out.pc
      clear hf
      go_wp2_with (fail)
      have HDP := Lib.hid ((HDP.out.setT s2' e2').set1 x2)
      clear c0 c1 f0 f1 p0 p1 p2 p3 g0 g1 g2 g3
      generalize ((w5.setCell ⟨z + 1, 0, none⟩ (.string s2')).setCell ⟨z + 1, 1, none⟩ (.int .i64 e2')).setCell ⟨pb, 1, none⟩ (.string x2) = V3 at *
      refine (rtext_at _ (Nat.le_trans HLE.out.1.2.1 HS.out) HTT.out.h3).mono ?_
      rintro r w6 ⟨rfl, hf⟩
      have HDP := Lib.hid (HDP.out.fresh hf)
      obtain ⟨c0, c1, f0, f1⟩ := HDP.out.tc
      obtain ⟨⟨p0, p1, p2, p3⟩, g0, g1, g2, g3⟩ := HDP.out.pc
      clear hf
      go_wp2_with (fail)
      have HDP := Lib.hid ((HDP.out.setT s3' e3').set2 x3)
      clear c0 c1 f0 f1 p0 p1 p2 p3 g0 g1 g2 g3
      generalize ((w6.setCell ⟨z + 1, 0, none⟩ (.string s3')).setCell ⟨z + 1, 1, none⟩ (.int .i64 e3')).setCell ⟨pb, 2, none⟩ (.string x3) = V4 at *
      refine (rtake_at _ (Nat.le_trans HLE.out.1.2.2.1 HS.out) HTT.out.h4).mono ?_
      rintro r w7 ⟨rfl, hf⟩
      have HDP := Lib.hid (HDP.out.fresh hf)
      obtain ⟨c0, c1, f0, f1⟩ := HDP.out.tc
      obtain ⟨⟨p0, p1, p2, p3⟩, g0, g1, g2, g3⟩ := HDP.out.pc
      have d0 := cell_of_at HDP.out.st (i := 0) rfl
      have d1 := cell_of_at HDP.out.st (i := 1) rfl
      have hy1 : ¬ y = z + 1 := by have := HDP.out.h1; omega
      have hy2 : ¬ y = pb := by have := HDP.out.h2; omega
      have hy3 : ¬ z + 1 = y := fun h => hy1 h.symm
      have hy4 : ¬ pb = y := fun h => hy2 h.symm
      clear hf
      have HDQ := Lib.hid ((HDP.out.setT s4 e4).set3 v)
      have HSZ : Hid ((((w7.setCell ⟨z + 1, 0, none⟩ (.string s4)).setCell ⟨z + 1, 1, none⟩ (.int .i64 e4)).setCell ⟨pb, 3, none⟩ (.int .u8 v)).heap.size = w7.heap.size) := by simp [Hid]
      have HN : Hid (∀ j u, [Value.string x1, .string x2, .string x3, .int .u8 v][j]? = some u → ((((w7.setCell ⟨z + 1, 0, none⟩ (.string s4)).setCell ⟨z + 1, 1, none⟩ (.int .i64 e4)).setCell ⟨pb, 3, none⟩ (.int .u8 v)).alloc (.cells #[.string x1, .string x2, .string x3, .int .u8 v] 67)).cell? ((⟨w7.heap.size, 0, none⟩ : Addr).add j) = some u) := by
        have := news7 (((w7.setCell ⟨z + 1, 0, none⟩ (.string s4)).setCell ⟨z + 1, 1, none⟩ (.int .i64 e4)).setCell ⟨pb, 3, none⟩ (.int .u8 v)) 67 [.string x1, .string x2, .string x3, .int .u8 v]
        rw [HSZ.out] at this
        exact this
      have HYS : Hid (y < w7.heap.size) := lt_of_at HDP.out.st
      go_wp2_with (at_builtin; refine Hid.out ?_)
      refine Lib.hid ?_
      clear c0 c1 f0 f1 p0 p1 p2 p3 g0 g1 g2 g3 d0 d1 HDP
      generalize ((w7.setCell ⟨z + 1, 0, none⟩ (.string s4)).setCell ⟨z + 1, 1, none⟩ (.int .i64 e4)).setCell ⟨pb, 3, none⟩ (.int .u8 v) = V5 at *
      generalize w7.heap.size = nb at *
      refine wpList_append_own _ rfl _ _ 28 rfl (y + 1) 67 i0 (.agg #[.string ⟨#[]⟩, .string ⟨#[]⟩, .string ⟨#[]⟩, .int .u8 0]) 4 56 Try.underlying28 hi hz0 hz1 hz2 rfl (by decide) _ k _ rfl (World.ownsRow.alloc HDQ.out.row _) ⟨nb, 0, none⟩ 1 1 [.string x1, .string x2, .string x3, .int .u8 v] rfl rfl HN.out (by simp [Value.oneCell']) (by unfold maxLen; omega) (by omega) (by rw [World.size_alloc, HSZ.out]; have := HYS.out; omega) ?_
      intro v' w8 hown' hgrow _
      obtain ⟨g', cap', rfl⟩ := ownsRow_succ hown'
      have HLT : Hid (∀ g, (Value.slice o k c).ownBlock = some g → y + 1 ≤ g) := fun g e => (World.ownsRow.lt HDQ.out.row g e).1
      have hzy : z + 1 < y := HDQ.out.h1
      have hyS := lt_of_at HDQ.out.st
      have hb : w8.heap[y]? = some (.cells #[.int .u32 q, .slice o k c] 30) := (hgrow.block y (by rw [World.size_alloc]; omega) (fun e => by have := HLT.out y e.symm; omega)).trans (at_alloc HDQ.out.st)
      have hbz : w8.heap[z]? = some (.cells #[.int .u32 0, .slice none 0 0] 30) := (hgrow.block z (by rw [World.size_alloc]; omega) (fun e => by have := HLT.out z e.symm; omega)).trans (at_alloc HDQ.out.r)
      have hbt : w8.heap[z + 1]? = some (.cells #[.string s4, .int .i64 e4] 89) := (hgrow.block (z + 1) (by rw [World.size_alloc]; omega) (fun e => by have := HLT.out (z + 1) e.symm; omega)).trans (at_alloc HDQ.out.t)
      have hfr : Fresh w w8 := (HDQ.out.fr.alloc _).grown hgrow (fun g e => by have := HLT.out g e; have := HZW.out; omega)
      have k1 := cell_of_at hb (i := 1) rfl
      have kf := frozen_of_at hb 1
      have HOWN := Lib.hid hown'
      have HB := Lib.hid hb
      have HBZ := Lib.hid hbz
      have HBT := Lib.hid hbt
      have HFR := Lib.hid hfr
      clear hown' hgrow hb hbz hbt hfr hzy hyS
      go_wp2
      have HND : Hid (DS w (w8.setCell ⟨y, 1, none⟩ (.slice (some ⟨g', 0, none⟩) (k + 1) cap')) z y s4 e4 q (some ⟨g', 0, none⟩) (k + 1) cap' (D ++ ([⟨x1, x2, x3, v⟩] : List P1))) := by
        have h1 := HDQ.out.h1
        refine ⟨HDQ.out.hz, h1, at_off HBZ.out (by omega) _, at_off HBT.out (by omega) _, at_set HB.out 1 _, ?_, ?_⟩
        · rw [p1s_snoc]
          exact own_set (p := ⟨y, 1, none⟩) HOWN.out (by show y < y + 1; omega) _
        · exact HFR.out.setCell (p := ⟨y, 1, none⟩) (by show w.heap.size ≤ y; have := HZW.out; omega) _
      go_roundw
      case rel =>
        refine ⟨k + 1, s4, e4, some ⟨g', 0, none⟩, cap', D ++ ([⟨x1, x2, x3, v⟩] : List P1), by simp, by omega, fun h => absurd (HZ2.out h) (by omega), Nat.le_trans HLE.out.1.2.2.2 HS.out, ?_, HST.out, HND.out⟩
        rw [Hid, List.length_append, HD.out]; rfl
      case measure => simp [intOf]; omega
    case neg =>
      have HR : Hid (s3 = s ∧ e3 = e ∧ (e = 0 → L = D ∧ k = N)) := by
        have h1 := H3.out.symm.trans HE.out
        simp only [aheadT, Prod.mk.injEq] at h1
        by_cases he : e = 0
        · have hkN : k = N := by omega
          rw [hkN, Nat.sub_self] at h1
          simp only [podsT, List.append_nil] at h1
          exact ⟨h1.1, h1.2.1, fun _ => ⟨h1.2.2, hkN⟩⟩
        · have h2 := podsT_err (N - k) (s := s) he
          exact ⟨h1.1.trans h2.1, h1.2.1.trans h2.2, fun h => absurd h he⟩
      obtain ⟨h3, h4, HLD⟩ := HR.out
      subst h3 h4
      have HLD := Lib.hid HLD
      clear HR H3 HE HE0 HZ2
      have HEN := Lib.hid (fun W => rend_any s3 e3 W)
      have hd := HDS.out
      have hcase : (k < N ∧ (e3 == 0) = false) ∨ ¬ k < N := by
        by_cases h1 : k < N
        · exact .inl ⟨h1, by rw [beq_eq_false_iff_ne]; exact fun h2 => hend ⟨h1, h2⟩⟩
        · exact .inr h1
      clear hend hd
      have HEE : Hid (endT s3 e3 = 0 → e3 = 0) := fun h => by
        unfold endT at h
        split at h
        · simp at h
        · exact h
      generalize endT s3 e3 = E at *
      by_cases hE : E = 0
      case neg =>
        have HR : Hid (R = (E, 0, [])) := by rw [Hid, HR0.out, if_pos hE]
        have e0 : (E != 0) = true := by simpa using hE
        clear HR0 HEE HLD hE
        rcases hcase with ⟨hk2, e1⟩ | hk2
        all_goals
          go_wp2_with (fail)
          all_goals try (exfalso; omega)
          refine (HEN.out _).mono ?_
          rintro r w5 ⟨rfl, hf⟩
          have HD5 := Lib.hid (HDS.out.fresh hf)
          have q0 := cell_of_at HD5.out.r (i := 0) rfl
          have q1 := cell_of_at HD5.out.r (i := 1) rfl
          have g0 := frozen_of_at HD5.out.r 0
          have g1 := frozen_of_at HD5.out.r 1
          go_wp2
          refine bodyPost_ret (v := .tuple #[st1 0 none 0 0, .int .i64 E]) (by simp [results, Try.results21, go_sem, st1, *]) rfl ⟨none, 0, ?_, ?_, ?_⟩
          · rw [HR.out]; rfl
          · rw [HR.out]; exact .nil _ _
          · exact (HD5.out.fr.setCell (p := ⟨z, 0, none⟩) (by show w.heap.size ≤ z; rw [HZW.out]; exact Nat.le_refl _) _).setCell (p := ⟨z, 1, none⟩) (by show w.heap.size ≤ z; rw [HZW.out]; exact Nat.le_refl _) _
      obtain rfl := HEE.out hE
      obtain ⟨h5, h6⟩ := HLD.out rfl
      subst h5 h6
      subst hE
      have hk2 : ¬ k < k := Nat.lt_irrefl k
      have HR1 : Hid (R = if chk1 L ≠ 0 then (chk1 L, 0, []) else (0, q, L)) := by rw [Hid, HR0.out, if_neg (by simp)]
      have HCK : Hid (∀ W W', DS w W z y s3 0 q o k c L → Fresh W W' → Calls Try.prog 12 #[.agg #[.int .u32 q, .slice o k c]] W' fun e w' => e = .returned (.int .i64 (chk1 L)) ∧ Fresh W' w') := fun W W' h f => by
        have := rcheck_any q o L c W' ((RowAt.owns h.row).move f) (fun p hp => (HFT.out p hp).mono (by omega)) (by rw [HD.out]; omega)
        rw [HD.out] at this
        exact this
      clear HR0 HEE HLD hcase HFT
      generalize hC : chk1 L = C at *
      clear hC
      by_cases hC : C = 0
      case neg =>
        have HR : Hid (R = (C, 0, [])) := by rw [Hid, HR1.out, if_pos hC]
        have e0 : (C != 0) = true := by simpa using hC
        clear HR1 hC
        go_wp2_with (fail)
        all_goals try (exfalso; omega)
        refine (HEN.out _).mono ?_
        rintro r w5 ⟨rfl, hf⟩
        have HD5 := Lib.hid (HDS.out.fresh hf)
        have d0 := cell_of_at HD5.out.st (i := 0) rfl
        have d1 := cell_of_at HD5.out.st (i := 1) rfl
        clear hf
        go_wp2_with (fail)
        refine (HCK.out _ _ HD5.out (.refl _)).mono ?_
        rintro r w6 ⟨rfl, hf⟩
        have HD6 := Lib.hid (HD5.out.fresh hf)
        have q0 := cell_of_at HD6.out.r (i := 0) rfl
        have q1 := cell_of_at HD6.out.r (i := 1) rfl
        have g0 := frozen_of_at HD6.out.r 0
        have g1 := frozen_of_at HD6.out.r 1
        clear d0 d1 hf
        go_wp2
        refine bodyPost_ret (v := .tuple #[st1 0 none 0 0, .int .i64 C]) (by simp [results, Try.results21, go_sem, st1, *]) rfl ⟨none, 0, ?_, ?_, ?_⟩
        · rw [HR.out]; rfl
        · rw [HR.out]; exact .nil _ _
        · exact (HD6.out.fr.setCell (p := ⟨z, 0, none⟩) (by show w.heap.size ≤ z; rw [HZW.out]; exact Nat.le_refl _) _).setCell (p := ⟨z, 1, none⟩) (by show w.heap.size ≤ z; rw [HZW.out]; exact Nat.le_refl _) _
      have HR : Hid (R = (0, q, L)) := by rw [Hid, HR1.out, if_neg (by simpa using hC)]
      subst hC
      clear HR1
      go_wp2_with (fail)
      all_goals try (exfalso; omega)
      refine (HEN.out _).mono ?_
      rintro r w5 ⟨rfl, hf⟩
      have HD5 := Lib.hid (HDS.out.fresh hf)
      have d0 := cell_of_at HD5.out.st (i := 0) rfl
      have d1 := cell_of_at HD5.out.st (i := 1) rfl
      clear hf
      go_wp2_with (fail)
      refine (HCK.out _ _ HD5.out (.refl _)).mono ?_
      rintro r w6 ⟨rfl, hf⟩
      have HD6 := Lib.hid (HD5.out.fresh hf)
      have d0 := cell_of_at HD6.out.st (i := 0) rfl
      have d1 := cell_of_at HD6.out.st (i := 1) rfl
      have q0 := cell_of_at HD6.out.r (i := 0) rfl
      have q1 := cell_of_at HD6.out.r (i := 1) rfl
      have g0 := frozen_of_at HD6.out.r 0
      have g1 := frozen_of_at HD6.out.r 1
      have HLT : Hid (∀ ad : Addr, o = some ad → ad.block ≠ z) := fun ad h => by
        have h1 := (World.ownsRow.lt HD6.out.row ad.block (by rw [h]; rfl)).1
        have h2 := HD6.out.h1
        omega
      clear hf
      go_wp2
      refine bodyPost_ret (v := .tuple #[st1 q o k c, .int .i64 0]) (by simp [results, Try.results21, go_sem, st1, *]) rfl ⟨o, c, ?_, ?_, ?_⟩
      · rw [HR.out]; dsimp only; rw [HD.out]
      · rw [HR.out]; exact ((RowAt.owns HD6.out.row).set (p := ⟨z, 0, none⟩) HLT.out _).set (p := ⟨z, 1, none⟩) HLT.out _
      · exact (HD6.out.fr.setCell (p := ⟨z, 0, none⟩) (by show w.heap.size ≤ z; rw [HZW.out]; exact Nat.le_refl _) _).setCell (p := ⟨z, 1, none⟩) (by show w.heap.size ≤ z; rw [HZW.out]; exact Nat.le_refl _) _
end Go.Proofs.Ytphjhlnjfcfdcaa
