/-
  The document's Decode for version 1, walked.
  What a strings.Builder of this program does when a text is written: its bytes behind what it holds.
  The bytes of a state of version 1, by package ckone.
  What package ckone's Encode returns.
  Are two states of version 1 alike, by package ckone?
  Are two states of version 1 alike, by the document?
  What the laws of version 1 use: a state as the document has it; few pods, and short texts; awake.
-/
import Derived.Test.YtphjhlnjfcfdcaaCat07
import Derived.Test.YtphjhlnjfcfdcaaCat01
import Derived.Test.YtphjhlnjfcfdcaaCat03
import Derived.Lib.AppendStr
import Derived.Deep.QuietTactic
import Derived.Test.YtphjhlnjfcfdcaaCat04
import Derived.Deep.RegionHeld3
import Derived.Test.YtphjhlnjfcfdcaaCat02
import Derived.BigQuiet
namespace Go.Proofs.Ytphjhlnjfcfdcaa
open Go.ChangeShapes Go.WideShapes Go.ChangeAt Go.RowKit
set_option maxRecDepth 100000

set_option maxHeartbeats 8000000 in
theorem rdecode_any (b : ByteArray) (w : World) (hb : b.size ≤ maxLen) : Calls Try.prog 21 #[.string b] w (DecIs b w) := by
  obtain ⟨s1, s2, s3, e1, e2, e3, q, n, L, hD⟩ := dec1T b
  obtain ⟨⟨hq0, hq1⟩, hn0, hn1⟩ := hD.vals
  have HEQ := Lib.hid (decT_eq hD)
  have HTH := Lib.hid hD
  have HLE := Lib.hid hD.le
  have HZ := Lib.hid (fun h => hD.zero h)
  have hwq := wrap_u32 hq0 hq1
  have HFT : Hid (∀ p ∈ L, p.Fit 4096) := fun p hp => podsT_fit n.toNat s2 e2 p (by rw [hD.h3]; exact hp)
  have HLEN : Hid (L.length = n.toNat) := by
    have := podsT_len n.toNat s2 e2
    rw [hD.h3] at this; exact this
  clear hD
  unfold DecIs
  generalize decT b = R at *
  have ht0 : ((w.alloc (.cells #[.int .u32 0, .slice none 0 0] 30)).alloc (.cells #[.string b, .int .i64 0] 89)).heap[w.heap.size + 1]? = some (.cells #[.string b, .int .i64 0] 89) := by
    have := at_new (w.alloc (.cells #[.int .u32 0, .slice none 0 0] 30)) (.cells #[.string b, .int .i64 0] 89)
    rw [World.size_alloc] at this
    exact this
  have HA := Lib.hid (at_alloc (p := .cells #[.string b, .int .i64 0] 89) (at_new w (.cells #[.int .u32 0, .slice none 0 0] 30)))
  have HF0 := Lib.hid (((Fresh.refl w).alloc (.cells #[.int .u32 0, .slice none 0 0] 30)).alloc (.cells #[.string b, .int .i64 0] 89))
  have HT0 := Lib.hid ht0
  clear ht0
  go_enter Try.func21, Try.ntmps21
  go_wp2_with (fail)
  generalize (w.alloc (.cells #[.int .u32 0, .slice none 0 0] 30)).alloc (.cells #[.string b, .int .i64 0] 89) = W0 at *
  obtain ⟨z, hz⟩ : ∃ z, z = w.heap.size := ⟨_, rfl⟩
  have HZW := Lib.hid hz
  rw [← hz] at HA HT0 ⊢
  clear hz
  refine (rtake_at _ hb HTH.out.h1).mono ?_
  rintro r w1 ⟨rfl, hf1⟩
  have HA1 := Lib.hid (hf1.at HA.out)
  have HF1 := Lib.hid (HF0.out.trans hf1)
  have ht1 := hf1.at HT0.out
  have c0 := cell_of_at ht1 (i := 0) rfl
  have c1 := cell_of_at ht1 (i := 1) rfl
  have f0 := frozen_of_at ht1 0
  have f1 := frozen_of_at ht1 1
  have HT1 := Lib.hid ht1
  clear hf1 ht1 HA HF0 HT0
  go_wp2_with (fail)
  have ht2 : ((w1.setCell ⟨z + 1, 0, none⟩ (.string s1)).setCell ⟨z + 1, 1, none⟩ (.int .i64 e1)).heap[z + 1]? = some (.cells #[.string s1, .int .i64 e1] 89) := at_set (at_set HT1.out 0 _) 1 _
  have HA2 := Lib.hid (at_off (at_off HA1.out (show z ≠ z + 1 by omega) (i := 0) (.string s1)) (show z ≠ z + 1 by omega) (i := 1) (.int .i64 e1))
  have HF2 := Lib.hid ((HF1.out.setCell (p := ⟨z + 1, 0, none⟩) (by show w.heap.size ≤ z + 1; have := HZW.out; omega) (.string s1)).setCell (p := ⟨z + 1, 1, none⟩) (by show w.heap.size ≤ z + 1; have := HZW.out; omega) (.int .i64 e1))
  have HT2 := Lib.hid ht2
  clear ht2 c0 c1 f0 f1 HA1 HF1 HT1
  generalize (w1.setCell ⟨z + 1, 0, none⟩ (.string s1)).setCell ⟨z + 1, 1, none⟩ (.int .i64 e1) = W2 at *
  refine (rtake_at _ (Nat.le_trans HLE.out.1 hb) HTH.out.h2).mono ?_
  rintro r w3 ⟨rfl, hf3⟩
  have HA3 := Lib.hid (hf3.at HA2.out)
  have HF3 := Lib.hid (HF2.out.trans hf3)
  have ht3 := hf3.at HT2.out
  have c0 := cell_of_at ht3 (i := 0) rfl
  have c1 := cell_of_at ht3 (i := 1) rfl
  have f0 := frozen_of_at ht3 0
  have f1 := frozen_of_at ht3 1
  have HT3 := Lib.hid ht3
  clear hf3 ht3 HA2 HF2 HT2
  have ht4 : ((w3.setCell ⟨z + 1, 0, none⟩ (.string s2)).setCell ⟨z + 1, 1, none⟩ (.int .i64 e2)).heap[z + 1]? = some (.cells #[.string s2, .int .i64 e2] 89) := at_set (at_set HT3.out 0 _) 1 _
  have HA4 := Lib.hid (at_off (at_off HA3.out (show z ≠ z + 1 by omega) (i := 0) (.string s2)) (show z ≠ z + 1 by omega) (i := 1) (.int .i64 e2))
  have HF4 := Lib.hid ((HF3.out.setCell (p := ⟨z + 1, 0, none⟩) (by show w.heap.size ≤ z + 1; have := HZW.out; omega) (.string s2)).setCell (p := ⟨z + 1, 1, none⟩) (by show w.heap.size ≤ z + 1; have := HZW.out; omega) (.int .i64 e2))
  have HT4 := Lib.hid ht4
  have q0 := cell_of_at HA4.out (i := 0) rfl
  have q1 := cell_of_at HA4.out (i := 1) rfl
  have g0 := frozen_of_at HA4.out 0
  have g1 := frozen_of_at HA4.out 1
  clear ht4
  by_cases hm : 1024 < n
  · have HR : Hid (R = (18, 0, [])) := by rw [Hid, HEQ.out, if_pos hm]
    clear HEQ
    go_wp2
    all_goals try (exfalso; omega)
    refine bodyPost_ret (v := .tuple #[st1 0 none 0 0, .int .i64 18]) (by simp [results, Try.results21, go_sem, st1, *]) rfl ⟨none, 0, ?_, ?_, ?_⟩
    · rw [HR.out]; rfl
    · rw [HR.out]; exact .nil _ _
    · exact (HF4.out.setCell (p := ⟨z, 0, none⟩) (by show w.heap.size ≤ z; rw [HZW.out]; exact Nat.le_refl _) _).setCell (p := ⟨z, 1, none⟩) (by show w.heap.size ≤ z; rw [HZW.out]; exact Nat.le_refl _) _
  have HR0 : Hid (R = if endT s3 e3 ≠ 0 then (endT s3 e3, 0, []) else if chk1 L ≠ 0 then (chk1 L, 0, []) else (0, q, L)) := by rw [Hid, HEQ.out, if_neg hm]
  clear HEQ
  obtain ⟨N, rfl⟩ := Int.eq_ofNat_of_zero_le hn0
  have hN : N ≤ 1024 := by omega
  clear hm hn0 hn1
  have hwn : wrap64 (N : Int) = (N : Int) := by unfold wrap64; omega
  go_wp2
  all_goals try (exfalso; omega)
  clear q0 q1 g0 g1 c0 c1 f0 f1
  obtain ⟨y, hy⟩ : ∃ y, y = w3.heap.size := ⟨_, rfl⟩
  have hDS : DS w (((w3.setCell ⟨z + 1, 0, none⟩ (.string s2)).setCell ⟨z + 1, 1, none⟩ (.int .i64 e2)).alloc (.cells #[.int .u32 q, .slice none 0 0] 30)) z y s2 e2 q none 0 0 [] := by
    have hsz : ((w3.setCell ⟨z + 1, 0, none⟩ (.string s2)).setCell ⟨z + 1, 1, none⟩ (.int .i64 e2)).heap.size = y := by rw [hy]; simp
    refine ⟨HZW.out, ?_, at_alloc HA4.out, at_alloc HT4.out, ?_, World.ownsRow_nil _ _ _ _, HF4.out.alloc _⟩
    · have := lt_of_at HT3.out; rw [hy]; exact this
    · have := at_new ((w3.setCell ⟨z + 1, 0, none⟩ (.string s2)).setCell ⟨z + 1, 1, none⟩ (.int .i64 e2)) (.cells #[.int .u32 q, .slice none 0 0] 30)
      rw [hsz] at this; exact this
  rw [← hy]
  clear hy
  have HDS := Lib.hid hDS
  clear hDS HA4 HF4 HT4 HA3 HF3 HT3
  generalize ((w3.setCell ⟨z + 1, 0, none⟩ (.string s2)).setCell ⟨z + 1, 1, none⟩ (.int .i64 e2)).alloc (.cells #[.int .u32 q, .slice none 0 0] 30) = V0 at *
  have HS2 : Hid (s2.size ≤ maxLen) := Nat.le_trans HLE.out.2 hb
  have HZ2 : Hid (e2 ≠ 0 → N = 0) := fun h => by have := HZ.out h; omega
  have H3 : Hid (podsT N s2 e2 = (s3, e3, L)) := by have := HTH.out.h3; rw [Int.toNat_natCast] at this; exact this
  obtain ⟨i0, hi, hz0, hz1, hz2⟩ := info_parts info2
  clear HTH HLE HZ HLEN
  go_loopw [8] (fun a8 wr => ∃ (k : Nat) (s : ByteArray) (e : Int) (o : Option Addr) (c : Nat) (D : List P1), a8 = .int .i64 (k : Int) ∧ k ≤ N ∧ Hid (e2 ≠ 0 → k = 0) ∧ Hid (s.size ≤ maxLen) ∧ Hid (D.length = k) ∧ Hid (podsT N s2 e2 = aheadT D (podsT (N - k) s e)) ∧ Hid (DS w wr z y s e q o k c D)) (fun a8 _ => N - (intOf a8).toNat)
  case atStart => exact ⟨0, s2, e2, none, 0, [], rfl, Nat.zero_le _, fun _ => rfl, HS2.out, rfl, rfl, HDS.out⟩
  case round =>
    clear HDS HS2
    obtain ⟨k, s, e, o, c, D, rfl, hk, HE0, HS, HD, HE, HDS⟩ := hrel
    obtain ⟨c0, c1, f0, f1⟩ := HDS.out.tc
    by_cases hend : k < N ∧ e = 0
    case pos =>
      obtain ⟨hlt, rfl⟩ := hend
      obtain ⟨s1', s2', s3', s4, x1, x2, x3, e1', e2', e3', e4, v, hT⟩ := pod1T s 0
      obtain ⟨hv0, hv1⟩ := hT.v
      have HTT := Lib.hid hT
      have HST := Lib.hid (HE.out.trans (podsT_step hlt (podT_eq hT.h1 hT.h2 hT.h3 hT.h4) D))
      have HLE := Lib.hid hT.le
      have hw8 := wrap_u8 hv0 hv1
      have HDP := Lib.hid HDS.out.pod
      have hzl := lt_of_at HDS.out.t
      clear hT HE
      go_wp2_with (fail)
      all_goals try (exfalso; omega)
      generalize wr.alloc (.cells #[.string ⟨#[]⟩, .string ⟨#[]⟩, .string ⟨#[]⟩, .int .u8 0] 67) = V1 at *
      obtain ⟨pb, hpb⟩ : ∃ pb, pb = wr.heap.size := ⟨_, rfl⟩
      rw [← hpb] at HDP ⊢
      clear hpb c0 c1 f0 f1 hzl
      have hn1 : ¬ z + 1 = pb := by have := HDP.out.h1; have := HDP.out.h2; omega
      have hn2 : ¬ pb = z + 1 := fun h => hn1 h.symm
      refine (rtext_at _ HS.out HTT.out.h1).mono ?_
      rintro r w4 ⟨rfl, hf⟩
      have HDP := Lib.hid (HDP.out.fresh hf)
      obtain ⟨c0, c1, f0, f1⟩ := HDP.out.tc
      obtain ⟨⟨p0, p1, p2, p3⟩, g0, g1, g2, g3⟩ := HDP.out.pc
      clear hf
      go_wp2_with (fail)
      have HDP := Lib.hid ((HDP.out.setT s1' e1').set0 x1)
      clear c0 c1 f0 f1 p0 p1 p2 p3 g0 g1 g2 g3
      generalize ((w4.setCell ⟨z + 1, 0, none⟩ (.string s1')).setCell ⟨z + 1, 1, none⟩ (.int .i64 e1')).setCell ⟨pb, 0, none⟩ (.string x1) = V2 at *
      refine (rtext_at _ (Nat.le_trans HLE.out.1.1 HS.out) HTT.out.h2).mono ?_
      rintro r w5 ⟨rfl, hf⟩
      have HDP := Lib.hid (HDP.out.fresh hf)
      obtain ⟨c0, c1, f0, f1⟩ := HDP.out.tc
      obtain ⟨⟨p0, p1, p2, p3⟩, g0, g1, g2, g3⟩ := HDP.out.pc
      clear hf
      go_wp2_with (fail)
      have HDP := Lib.hid ((HDP.out.setT s2' e2').set1 x2)
      clear c0 c1 f0 f1 p0 p1 p2 p3 g0 g1 g2 g3
      generalize ((w5.setCell ⟨z + 1, 0, none⟩ (.string s2')).setCell ⟨z + 1, 1, none⟩ (.int .i64 e2')).setCell ⟨pb, 1, none⟩ (.string x2) = V3 at *
      refine (rtext_at _ (Nat.le_trans HLE.out.1.2.1 HS.out) HTT.out.h3).mono ?_
      rintro r w6 ⟨rfl, hf⟩
      have HDP := Lib.hid (HDP.out.fresh hf)
      obtain ⟨c0, c1, f0, f1⟩ := HDP.out.tc
      obtain ⟨⟨p0, p1, p2, p3⟩, g0, g1, g2, g3⟩ := HDP.out.pc
      clear hf
      go_wp2_with (fail)
      have HDP := Lib.hid ((HDP.out.setT s3' e3').set2 x3)
      clear c0 c1 f0 f1 p0 p1 p2 p3 g0 g1 g2 g3
      generalize ((w6.setCell ⟨z + 1, 0, none⟩ (.string s3')).setCell ⟨z + 1, 1, none⟩ (.int .i64 e3')).setCell ⟨pb, 2, none⟩ (.string x3) = V4 at *
      refine (rtake_at _ (Nat.le_trans HLE.out.1.2.2.1 HS.out) HTT.out.h4).mono ?_
      rintro r w7 ⟨rfl, hf⟩
      have HDP := Lib.hid (HDP.out.fresh hf)
      obtain ⟨c0, c1, f0, f1⟩ := HDP.out.tc
      obtain ⟨⟨p0, p1, p2, p3⟩, g0, g1, g2, g3⟩ := HDP.out.pc
      have d0 := cell_of_at HDP.out.st (i := 0) rfl
      have d1 := cell_of_at HDP.out.st (i := 1) rfl
      have hy1 : ¬ y = z + 1 := by have := HDP.out.h1; omega
      have hy2 : ¬ y = pb := by have := HDP.out.h2; omega
      have hy3 : ¬ z + 1 = y := fun h => hy1 h.symm
      have hy4 : ¬ pb = y := fun h => hy2 h.symm
      clear hf
      have HDQ := Lib.hid ((HDP.out.setT s4 e4).set3 v)
      have HSZ : Hid ((((w7.setCell ⟨z + 1, 0, none⟩ (.string s4)).setCell ⟨z + 1, 1, none⟩ (.int .i64 e4)).setCell ⟨pb, 3, none⟩ (.int .u8 v)).heap.size = w7.heap.size) := by simp [Hid]
      have HN : Hid (∀ j u, [Value.string x1, .string x2, .string x3, .int .u8 v][j]? = some u → ((((w7.setCell ⟨z + 1, 0, none⟩ (.string s4)).setCell ⟨z + 1, 1, none⟩ (.int .i64 e4)).setCell ⟨pb, 3, none⟩ (.int .u8 v)).alloc (.cells #[.string x1, .string x2, .string x3, .int .u8 v] 67)).cell? ((⟨w7.heap.size, 0, none⟩ : Addr).add j) = some u) := by
        have := news7 (((w7.setCell ⟨z + 1, 0, none⟩ (.string s4)).setCell ⟨z + 1, 1, none⟩ (.int .i64 e4)).setCell ⟨pb, 3, none⟩ (.int .u8 v)) 67 [.string x1, .string x2, .string x3, .int .u8 v]
        rw [HSZ.out] at this
        exact this
      have HYS : Hid (y < w7.heap.size) := lt_of_at HDP.out.st
      go_wp2_with (at_builtin; refine Hid.out ?_)
      refine Lib.hid ?_
      clear c0 c1 f0 f1 p0 p1 p2 p3 g0 g1 g2 g3 d0 d1 HDP
      generalize ((w7.setCell ⟨z + 1, 0, none⟩ (.string s4)).setCell ⟨z + 1, 1, none⟩ (.int .i64 e4)).setCell ⟨pb, 3, none⟩ (.int .u8 v) = V5 at *
      generalize w7.heap.size = nb at *
      refine wpList_append_own _ rfl _ _ 28 rfl (y + 1) 67 i0 (.agg #[.string ⟨#[]⟩, .string ⟨#[]⟩, .string ⟨#[]⟩, .int .u8 0]) 4 56 Try.underlying28 hi hz0 hz1 hz2 rfl (by decide) _ k _ rfl (World.ownsRow.alloc HDQ.out.row _) ⟨nb, 0, none⟩ 1 1 [.string x1, .string x2, .string x3, .int .u8 v] rfl rfl HN.out (by simp [Value.oneCell']) (by unfold maxLen; omega) (by omega) (by rw [World.size_alloc, HSZ.out]; have := HYS.out; omega) ?_
      intro v' w8 hown' hgrow _
      obtain ⟨g', cap', rfl⟩ := ownsRow_succ hown'
      have HLT : Hid (∀ g, (Value.slice o k c).ownBlock = some g → y + 1 ≤ g) := fun g e => (World.ownsRow.lt HDQ.out.row g e).1
      have hzy : z + 1 < y := HDQ.out.h1
      have hyS := lt_of_at HDQ.out.st
      have hb : w8.heap[y]? = some (.cells #[.int .u32 q, .slice o k c] 30) := (hgrow.block y (by rw [World.size_alloc]; omega) (fun e => by have := HLT.out y e.symm; omega)).trans (at_alloc HDQ.out.st)
      have hbz : w8.heap[z]? = some (.cells #[.int .u32 0, .slice none 0 0] 30) := (hgrow.block z (by rw [World.size_alloc]; omega) (fun e => by have := HLT.out z e.symm; omega)).trans (at_alloc HDQ.out.r)
      have hbt : w8.heap[z + 1]? = some (.cells #[.string s4, .int .i64 e4] 89) := (hgrow.block (z + 1) (by rw [World.size_alloc]; omega) (fun e => by have := HLT.out (z + 1) e.symm; omega)).trans (at_alloc HDQ.out.t)
      have hfr : Fresh w w8 := (HDQ.out.fr.alloc _).grown hgrow (fun g e => by have := HLT.out g e; have := HZW.out; omega)
      have k1 := cell_of_at hb (i := 1) rfl
      have kf := frozen_of_at hb 1
      have HOWN := Lib.hid hown'
      have HB := Lib.hid hb
      have HBZ := Lib.hid hbz
      have HBT := Lib.hid hbt
      have HFR := Lib.hid hfr
      clear hown' hgrow hb hbz hbt hfr hzy hyS
      go_wp2
      have HND : Hid (DS w (w8.setCell ⟨y, 1, none⟩ (.slice (some ⟨g', 0, none⟩) (k + 1) cap')) z y s4 e4 q (some ⟨g', 0, none⟩) (k + 1) cap' (D ++ ([⟨x1, x2, x3, v⟩] : List P1))) := by
        have h1 := HDQ.out.h1
        refine ⟨HDQ.out.hz, h1, at_off HBZ.out (by omega) _, at_off HBT.out (by omega) _, at_set HB.out 1 _, ?_, ?_⟩
        · rw [p1s_snoc]
          exact own_set (p := ⟨y, 1, none⟩) HOWN.out (by show y < y + 1; omega) _
        · exact HFR.out.setCell (p := ⟨y, 1, none⟩) (by show w.heap.size ≤ y; have := HZW.out; omega) _
      go_roundw
      case rel =>
        refine ⟨k + 1, s4, e4, some ⟨g', 0, none⟩, cap', D ++ ([⟨x1, x2, x3, v⟩] : List P1), by simp, by omega, fun h => absurd (HZ2.out h) (by omega), Nat.le_trans HLE.out.1.2.2.2 HS.out, ?_, HST.out, HND.out⟩
        rw [Hid, List.length_append, HD.out]; rfl
      case measure => simp [intOf]; omega
    case neg =>
      have HR : Hid (s3 = s ∧ e3 = e ∧ (e = 0 → L = D ∧ k = N)) := by
        have h1 := H3.out.symm.trans HE.out
        simp only [aheadT, Prod.mk.injEq] at h1
        by_cases he : e = 0
        · have hkN : k = N := by omega
          rw [hkN, Nat.sub_self] at h1
          simp only [podsT, List.append_nil] at h1
          exact ⟨h1.1, h1.2.1, fun _ => ⟨h1.2.2, hkN⟩⟩
        · have h2 := podsT_err (N - k) (s := s) he
          exact ⟨h1.1.trans h2.1, h1.2.1.trans h2.2, fun h => absurd h he⟩
      obtain ⟨h3, h4, HLD⟩ := HR.out
      subst h3 h4
      have HLD := Lib.hid HLD
      clear HR H3 HE HE0 HZ2
      have HEN := Lib.hid (fun W => rend_any s3 e3 W)
      have hd := HDS.out
      have hcase : (k < N ∧ (e3 == 0) = false) ∨ ¬ k < N := by
        by_cases h1 : k < N
        · exact .inl ⟨h1, by rw [beq_eq_false_iff_ne]; exact fun h2 => hend ⟨h1, h2⟩⟩
        · exact .inr h1
      clear hend hd
      have HEE : Hid (endT s3 e3 = 0 → e3 = 0) := fun h => by
        unfold endT at h
        split at h
        · simp at h
        · exact h
      generalize endT s3 e3 = E at *
      by_cases hE : E = 0
      case neg =>
        have HR : Hid (R = (E, 0, [])) := by rw [Hid, HR0.out, if_pos hE]
        have e0 : (E != 0) = true := by simpa using hE
        clear HR0 HEE HLD hE
        rcases hcase with ⟨hk2, e1⟩ | hk2
        all_goals
          go_wp2_with (fail)
          all_goals try (exfalso; omega)
          refine (HEN.out _).mono ?_
          rintro r w5 ⟨rfl, hf⟩
          have HD5 := Lib.hid (HDS.out.fresh hf)
          have q0 := cell_of_at HD5.out.r (i := 0) rfl
          have q1 := cell_of_at HD5.out.r (i := 1) rfl
          have g0 := frozen_of_at HD5.out.r 0
          have g1 := frozen_of_at HD5.out.r 1
          go_wp2
          refine bodyPost_ret (v := .tuple #[st1 0 none 0 0, .int .i64 E]) (by simp [results, Try.results21, go_sem, st1, *]) rfl ⟨none, 0, ?_, ?_, ?_⟩
          · rw [HR.out]; rfl
          · rw [HR.out]; exact .nil _ _
          · exact (HD5.out.fr.setCell (p := ⟨z, 0, none⟩) (by show w.heap.size ≤ z; rw [HZW.out]; exact Nat.le_refl _) _).setCell (p := ⟨z, 1, none⟩) (by show w.heap.size ≤ z; rw [HZW.out]; exact Nat.le_refl _) _
      obtain rfl := HEE.out hE
      obtain ⟨h5, h6⟩ := HLD.out rfl
      subst h5 h6
      subst hE
      have hk2 : ¬ k < k := Nat.lt_irrefl k
      have HR1 : Hid (R = if chk1 L ≠ 0 then (chk1 L, 0, []) else (0, q, L)) := by rw [Hid, HR0.out, if_neg (by simp)]
      have HCK : Hid (∀ W W', DS w W z y s3 0 q o k c L → Fresh W W' → Calls Try.prog 12 #[.agg #[.int .u32 q, .slice o k c]] W' fun e w' => e = .returned (.int .i64 (chk1 L)) ∧ Fresh W' w') := fun W W' h f => by
        have := rcheck_any q o L c W' ((RowAt.owns h.row).move f) (fun p hp => (HFT.out p hp).mono (by omega)) (by rw [HD.out]; omega)
        rw [HD.out] at this
        exact this
      clear HR0 HEE HLD hcase HFT
      generalize hC : chk1 L = C at *
      clear hC
      by_cases hC : C = 0
      case neg =>
        have HR : Hid (R = (C, 0, [])) := by rw [Hid, HR1.out, if_pos hC]
        have e0 : (C != 0) = true := by simpa using hC
        clear HR1 hC
        go_wp2_with (fail)
        all_goals try (exfalso; omega)
        refine (HEN.out _).mono ?_
        rintro r w5 ⟨rfl, hf⟩
        have HD5 := Lib.hid (HDS.out.fresh hf)
        have d0 := cell_of_at HD5.out.st (i := 0) rfl
        have d1 := cell_of_at HD5.out.st (i := 1) rfl
        clear hf
        go_wp2_with (fail)
        refine (HCK.out _ _ HD5.out (.refl _)).mono ?_
        rintro r w6 ⟨rfl, hf⟩
        have HD6 := Lib.hid (HD5.out.fresh hf)
        have q0 := cell_of_at HD6.out.r (i := 0) rfl
        have q1 := cell_of_at HD6.out.r (i := 1) rfl
        have g0 := frozen_of_at HD6.out.r 0
        have g1 := frozen_of_at HD6.out.r 1
        clear d0 d1 hf
        go_wp2
        refine bodyPost_ret (v := .tuple #[st1 0 none 0 0, .int .i64 C]) (by simp [results, Try.results21, go_sem, st1, *]) rfl ⟨none, 0, ?_, ?_, ?_⟩
        · rw [HR.out]; rfl
        · rw [HR.out]; exact .nil _ _
        · exact (HD6.out.fr.setCell (p := ⟨z, 0, none⟩) (by show w.heap.size ≤ z; rw [HZW.out]; exact Nat.le_refl _) _).setCell (p := ⟨z, 1, none⟩) (by show w.heap.size ≤ z; rw [HZW.out]; exact Nat.le_refl _) _
      have HR : Hid (R = (0, q, L)) := by rw [Hid, HR1.out, if_neg (by simpa using hC)]
      subst hC
      clear HR1
      go_wp2_with (fail)
      all_goals try (exfalso; omega)
      refine (HEN.out _).mono ?_
      rintro r w5 ⟨rfl, hf⟩
      have HD5 := Lib.hid (HDS.out.fresh hf)
      have d0 := cell_of_at HD5.out.st (i := 0) rfl
      have d1 := cell_of_at HD5.out.st (i := 1) rfl
      clear hf
      go_wp2_with (fail)
      refine (HCK.out _ _ HD5.out (.refl _)).mono ?_
      rintro r w6 ⟨rfl, hf⟩
      have HD6 := Lib.hid (HD5.out.fresh hf)
      have d0 := cell_of_at HD6.out.st (i := 0) rfl
      have d1 := cell_of_at HD6.out.st (i := 1) rfl
      have q0 := cell_of_at HD6.out.r (i := 0) rfl
      have q1 := cell_of_at HD6.out.r (i := 1) rfl
      have g0 := frozen_of_at HD6.out.r 0
      have g1 := frozen_of_at HD6.out.r 1
      have HLT : Hid (∀ ad : Addr, o = some ad → ad.block ≠ z) := fun ad h => by
        have h1 := (World.ownsRow.lt HD6.out.row ad.block (by rw [h]; rfl)).1
        have h2 := HD6.out.h1
        omega
      clear hf
      go_wp2
      refine bodyPost_ret (v := .tuple #[st1 q o k c, .int .i64 0]) (by simp [results, Try.results21, go_sem, st1, *]) rfl ⟨o, c, ?_, ?_, ?_⟩
      · rw [HR.out]; dsimp only; rw [HD.out]
      · rw [HR.out]; exact ((RowAt.owns HD6.out.row).set (p := ⟨z, 0, none⟩) HLT.out _).set (p := ⟨z, 1, none⟩) HLT.out _
      · exact (HD6.out.fr.setCell (p := ⟨z, 0, none⟩) (by show w.heap.size ≤ z; rw [HZW.out]; exact Nat.le_refl _) _).setCell (p := ⟨z, 1, none⟩) (by show w.heap.size ≤ z; rw [HZW.out]; exact Nat.le_refl _) _
end Go.Proofs.Ytphjhlnjfcfdcaa
namespace Go.Proofs.Ytphjhlnjfcfdcaa
open Go.ChangeShapes Go.WideShapes Go.ChangeAt Go.RowKit
set_option maxRecDepth 100000

/-- A builder in block b: these bytes. -/
def Bld (B b : Nat) (l : List UInt8) (w : World) : Prop := Lib.IsBuilder 71 5 B b (Lib.byteCells l) w
theorem infoB : (Try.prog.info? 71).map (·.size) = some 2 := by kernel_rfl
theorem copy_used (b : Nat) (w : World) (h0 : w.cell? ⟨b, 0, none⟩ = some (.pointer (some ⟨b, 0, none⟩))) :
    Calls Try.prog 71 #[.pointer (some ⟨b, 0, none⟩)] w fun e w' => e = .returned (.tuple #[]) ∧ w' = w := by
  obtain ⟨j, hj, hjs⟩ := Option.map_eq_some_iff.1 infoB
  have hne := Lib.run_neq_ptr_same (P := Try.prog) w ⟨b, 0, none⟩ Try.underlying68 hj
  clear hj hjs
  go_enter Try.func71, Try.ntmps71
  go_wp2
  go_end0
  exact ⟨rfl, rfl⟩
theorem liesB : liesAt Try.prog Try.prog.depth 71 (2 / Try.prog.cellsOf 71) 0 71 1 = true := by kernel_rfl
theorem copy_fresh (b : Nat) (w : World) (h0 : w.cell? ⟨b, 0, none⟩ = some (.pointer none)) (hsh : w.shape? b = some (71, 2)) (hfz : w.frozen? ⟨b, 0, none⟩ = false) :
    Calls Try.prog 71 #[.pointer (some ⟨b, 0, none⟩)] w fun e w' => e = .returned (.tuple #[]) ∧ w' = w.setCell ⟨b, 0, none⟩ (.pointer (some ⟨b, 0, none⟩)) := by
  obtain ⟨j, hj, hjs⟩ := Option.map_eq_some_iff.1 infoB
  have h1 := Lib.run_to_unsafe (P := Try.prog) w ⟨b, 0, none⟩ Try.underlying68 Try.underlying132 hj (by rw [hjs]; decide) hsh (Nat.zero_lt_succ 1)
  have h2 := Lib.run_from_unsafe (P := Try.prog) w ⟨b, 0, none⟩ Try.underlying132 Try.underlying68 hj hsh liesB
  have hne := fun W : World => Lib.run_neq_ptr_same (P := Try.prog) W ⟨b, 0, none⟩ Try.underlying68 hj
  clear hj hjs hsh
  go_enter Try.func71, Try.ntmps71
  go_wp2
  rw [run_callFunc_extern Try.func90 (by kernel_rfl) (by kernel_rfl) (by kernel_rfl) (e := Extern.AbiNoEscape.same) (by kernel_rfl)]
  rw [Lib.run_noEscape]
  simp only [Result.andThen]
  rw [Oper.upon_value]
  go_wp2
  go_end0
  exact ⟨rfl, rfl⟩
theorem copy_any (B b : Nat) (l : List UInt8) (w : World) (h : Bld B b l w) :
    Calls Try.prog 71 #[.pointer (some ⟨b, 0, none⟩)] w fun e w' => e = .returned (.tuple #[]) ∧ (Lib.BuilderAt 71 5 B b (.pointer (some ⟨b, 0, none⟩)) (Lib.byteCells l) w' ∧ Below B w w') := by
  rcases h with h | h
  · refine (copy_fresh b w h.cell0 h.shape h.frozen0).mono ?_
    rintro e w' ⟨rfl, rfl⟩
    exact ⟨rfl, h.used _, (Below.refl B w).setCell (p := ⟨b, 0, none⟩) h.1 _⟩
  · refine (copy_used b w h.cell0).mono ?_
    rintro e w' ⟨rfl, rfl⟩
    exact ⟨rfl, h, Below.refl B _⟩
theorem bytes_app (l m : List UInt8) : Lib.byteCells l ++ Lib.byteCells m = Lib.byteCells (l ++ m) := by simp [Lib.byteCells]
theorem bytes_len (l : List UInt8) : (Lib.byteCells l).length = l.length := Lib.byteCells_length l
theorem str_cells (s : ByteArray) : Lib.strCells s = Lib.byteCells s.data.toList := rfl
set_option maxHeartbeats 1000000 in
theorem write_any (B b : Nat) (l : List UInt8) (s : ByteArray) (w : World) (h : Bld B b l w) (hlen : l.length + s.size ≤ 140737488355328) (hBw : B ≤ w.heap.size) :
    Calls Try.prog 37 #[.pointer (some ⟨b, 0, none⟩), .string s] w fun e w' => e = .returned (.tuple #[.int .i64 s.size, .nilIface]) ∧ Bld B b (l ++ s.data.toList) w' ∧ Below B w w' := by
  obtain ⟨i0, hi, hz0, hz1, hz2⟩ := info_parts info5
  have HC := Lib.hid (copy_any B b l w h)
  have hl : (Lib.byteCells l).length = l.length := bytes_len l
  clear h
  go_enter Try.func37, Try.ntmps37
  go_wp2_with (fail)
  refine HC.out.mono ?_
  rintro e w1 ⟨rfl, h1, hb1⟩
  obtain ⟨hB, v, hbk, hown, hne⟩ := h1
  have c0 : w1.cell? ⟨b, 0, none⟩ = some (.pointer (some ⟨b, 0, none⟩)) := by rw [Lib.cell_of_heap hbk]; rfl
  have c1 : w1.cell? ⟨b, 1, none⟩ = some v := by rw [Lib.cell_of_heap hbk]; rfl
  have hsz := hb1.size
  go_wp2_with (at_builtin; refine Lib.wpList_append_own_string _ rfl _ _ 69 9 rfl B 5 i0 Try.underlying69 Try.underlying9 hi hz0 hz1 hz2 _ _ _ rfl hown s rfl ?c3 ?c4 ?c5 ?_)
  case c3 => unfold maxLen; omega
  case c4 => omega
  case c5 => omega
  intro v' w2 hown' hgrow _
  have hlt : b < w1.heap.size := lt_of_at hbk
  have hb2 : w2.heap[b]? = some (.cells #[.pointer (some ⟨b, 0, none⟩), v] 71 (0, 0)) := by
    rw [hgrow.block b hlt (fun e => hne e.symm)]
    exact hbk
  have d0 : w2.cell? ⟨b, 0, none⟩ = some (.pointer (some ⟨b, 0, none⟩)) := by rw [Lib.cell_of_heap hb2]; rfl
  have d1 : w2.cell? ⟨b, 1, none⟩ = some v := by rw [Lib.cell_of_heap hb2]; rfl
  have f1 : w2.frozen? ⟨b, 1, none⟩ = false := Lib.frozen_of_heap hb2 1
  obtain ⟨ao, n', cap, rfl⟩ : ∃ ao n' cap, v' = .slice ao n' cap := by
    rcases hown'.2 with ⟨hv, _⟩ | ⟨g, cap, cur, hv, _⟩
    · exact ⟨_, _, _, hv⟩
    · exact ⟨_, _, _, hv⟩
  go_wp2
  go_ret2
  refine ⟨rfl, .inr ?_, ?_⟩
  · refine Lib.BuilderAt.put (T := 71) (e := 5) hB hb2 (bs' := Lib.byteCells (l ++ s.data.toList)) ?_ (by decide)
    have := hown'
    rw [str_cells, bytes_app] at this
    rw [bytes_len, List.length_append]
    rw [← Lib.size_eq]
    exact this
  · exact (hb1.grown hgrow (by omega) (fun k hk => (hown.lt k hk).1)).setCell (p := ⟨b, 1, none⟩) hB _
theorem str_any (B b : Nat) (l : List UInt8) (w : World) (h : Bld B b l w) (hBw : B ≤ w.heap.size) :
    Calls Try.prog 40 #[.pointer (some ⟨b, 0, none⟩)] w fun e w' => e = .returned (.string ⟨l.toArray⟩) ∧ Below B w w' := Try.Builder_String_any B b l w h hBw
theorem bld_new (w : World) : Bld w.heap.size w.heap.size [] (w.alloc (.cells #[.pointer none, .slice none 0 0] 71)) := Lib.fresh_isBuilder _ _ w
/-- What is fresh in memory that isn't the builder's leaves it as it is. -/
theorem Bld.fresh {B b : Nat} {l : List UInt8} {w w' : World} (h : Bld B b l w) (f : Fresh w w') : Bld B b l w' := by
  have key : ∀ p, Lib.BuilderAt 71 5 B b p (Lib.byteCells l) w → Lib.BuilderAt 71 5 B b p (Lib.byteCells l) w' := fun p h => by
    obtain ⟨hB, v, hbk, hown, hne⟩ := h
    refine ⟨hB, v, f.at hbk, ?_, hne⟩
    refine World.ownsRow.kept (row := none) hown ⟨f.os, f.tape, f.output, f.size, fun k hk _ => f.block k hk⟩ ?_
    rcases h' : v.ownBlock with _ | g
    · exact .inl rfl
    · exact .inr (by simp)
  rcases h with h | h
  · exact .inl (key _ h)
  · exact .inr (key _ h)
end Go.Proofs.Ytphjhlnjfcfdcaa
namespace Go.Proofs.Ytphjhlnjfcfdcaa
open Go.ChangeShapes Go.WideShapes Go.ChangeAt Go.RowKit
set_option maxRecDepth 100000

theorem text1_any (s : ByteArray) (w : World) (h : s.size ≤ 4096) : Calls Try.prog 73 #[.string s] w fun e w' => e = .returned (.string (tx (txtL s))) ∧ Fresh w w' := by
  have HT := Lib.hid (fun W => text_ok s W h)
  rw [txt_tx] at HT
  go_enter Try.func73, Try.ntmps73
  go_wp2_with (fail)
  refine (HT.out _).mono ?_
  rintro e w' ⟨rfl, hg⟩
  go_wp2
  go_ret
  exact ⟨rfl, hg⟩
theorem add_run (a b c : ByteArray) (h : a.size + b.size ≤ 9223372036854775807) (hc : a ++ b = c) (W : World) : (Op.stringOp .add a b).run Try.prog W = .ok (.string c) W := by
  rw [run_string_add_sum W _ _ h, hc]
theorem wrap_byte {r : Int} (h0 : 0 ≤ r) (h1 : r ≤ 255) : IntKind.u64.wrap r = r := by
  simp [IntKind.wrap, IntKind.signed, IntKind.bits]; omega
theorem pod_parts (p : P1) : tx (txtL p.file) ++ tx (txtL p.name) ++ tx (txtL p.image) ++ beS 1 p.r.toNat = tx (podL p) := by
  rw [beS_tx, tx_app, tx_app, tx_app, podL]; simp only [List.append_assoc]
set_option maxHeartbeats 4000000 in
theorem podB_any (p : P1) (w : World) (hp : p.Fit 4096) : Calls Try.prog 39 #[p.val] w fun e w' => e = .returned (.string (tx (podL p))) ∧ Fresh w w' := by
  have HPP := Lib.hid (pod_parts p)
  obtain ⟨file, name, image, r⟩ := p
  have H1 := Lib.hid (fun W => text1_any file W hp.file)
  have H2 := Lib.hid (fun W => text1_any name W hp.name)
  have H3 := Lib.hid (fun W => text1_any image W hp.image)
  have hr0 : 0 ≤ r := hp.r0
  have hr1 : r ≤ 255 := hp.r1
  have H4 := Lib.hid (fun W => put_yes 1 r W (by decide) hr0 (by omega))
  have z1 : (tx (txtL file)).size ≤ 5000 := by rw [tx_size, txtL_len]; have := hp.file; dsimp only at this; omega
  have z2 : (tx (txtL name)).size ≤ 5000 := by rw [tx_size, txtL_len]; have := hp.name; dsimp only at this; omega
  have z3 : (tx (txtL image)).size ≤ 5000 := by rw [tx_size, txtL_len]; have := hp.image; dsimp only at this; omega
  have z4 : (beS 1 r.toNat).size = 1 := beS_size _ _
  have hw := wrap_byte hr0 hr1
  dsimp only [P1.val] at *
  rw [show (1 : Int).toNat = 1 from rfl] at H4
  clear hp
  generalize tx (txtL file) = A at *
  generalize tx (txtL name) = B at *
  generalize tx (txtL image) = C at *
  generalize beS 1 r.toNat = D at *
  rw [← HPP.out]
  have s1 : (A ++ B).size ≤ 10000 := by rw [ByteArray.size_append]; omega
  have s2 : (A ++ B ++ C).size ≤ 15000 := by rw [ByteArray.size_append]; omega
  have a1 := add_run A B _ (by omega) rfl
  have a2 := add_run (A ++ B) C _ (by omega) rfl
  have a3 := add_run (A ++ B ++ C) D _ (by omega) rfl
  generalize A ++ B ++ C ++ D = ABCD at *
  generalize A ++ B ++ C = ABC at *
  generalize A ++ B = AB at *
  have HA := Lib.hid (at_new w (.cells #[.string file, .string name, .string image, .int .u8 r] 66))
  have HF0 := Lib.hid ((Fresh.refl w).alloc (.cells #[.string file, .string name, .string image, .int .u8 r] 66))
  go_enter Try.func39, Try.ntmps39
  go_wp2_with (fail)
  generalize w.alloc (.cells #[.string file, .string name, .string image, .int .u8 r] 66) = W1 at *
  obtain ⟨z, hz⟩ : ∃ z, z = w.heap.size := ⟨_, rfl⟩
  rw [← hz] at HA ⊢
  clear hz
  have HKP : Hid (∀ W, Fresh W1 W → W.cell? ⟨z, 0, none⟩ = some (.string file) ∧ W.cell? ⟨z, 1, none⟩ = some (.string name) ∧ W.cell? ⟨z, 2, none⟩ = some (.string image) ∧ W.cell? ⟨z, 3, none⟩ = some (.int .u8 r)) := fun W f =>
    (p1_box (p := ⟨file, name, image, r⟩) (f.at HA.out)).1
  obtain ⟨k0, k1, k2, k3⟩ := HKP.out W1 (.refl _)
  have HK : Hid (Fresh W1 W1.drew) := (Fresh.refl W1).drew
  go_region_held3 (fun w' => (w'.cell? ⟨z, 0, none⟩ = some (.string file) ∧ w'.cell? ⟨z, 1, none⟩ = some (.string name) ∧ w'.cell? ⟨z, 2, none⟩ = some (.string image) ∧ w'.cell? ⟨z, 3, none⟩ = some (.int .u8 r))) (go_keep)
    (first
      | (go_at_call 73; (with_reducible refine (H1.out _).mono ?_); rintro e W2 ⟨rfl, hf⟩; have HK := Lib.hid (HK.out.trans hf); obtain ⟨k0, k1, k2, k3⟩ := HKP.out _ HK.out; clear hf)
      | (go_at_call 73; (with_reducible refine (H2.out _).mono ?_); rintro e W2 ⟨rfl, hf⟩; have HK := Lib.hid (HK.out.trans hf); obtain ⟨k0, k1, k2, k3⟩ := HKP.out _ HK.out; clear hf)
      | (go_at_call 73; (with_reducible refine (H3.out _).mono ?_); rintro e W2 ⟨rfl, hf⟩; have HK := Lib.hid (HK.out.trans hf); obtain ⟨k0, k1, k2, k3⟩ := HKP.out _ HK.out; clear hf)
      | (go_at_call 38; (with_reducible refine (H4.out _).mono ?_); rintro e W2 ⟨rfl, hf⟩; have HK := Lib.hid (HK.out.trans hf); obtain ⟨k0, k1, k2, k3⟩ := HKP.out _ HK.out; clear hf))
  all_goals go_wp2
  all_goals go_ret
  all_goals exact ⟨rfl, HF0.out.trans HK.out⟩
end Go.Proofs.Ytphjhlnjfcfdcaa
namespace Go.Proofs.Ytphjhlnjfcfdcaa
open Go.ChangeShapes Go.WideShapes Go.ChangeAt Go.RowKit
set_option maxRecDepth 100000

theorem wrap_u64' {r : Int} (h0 : 0 ≤ r) (h1 : r < 18446744073709551616) : IntKind.u64.wrap r = r := by
  simp [IntKind.wrap, IntKind.signed, IntKind.bits]; omega
set_option maxHeartbeats 2000000 in
theorem encode_bad (seq : Int) (a : Option Addr) (l : List P1) (c : Nat) (w : World) (h : RowAt w a (p1s l)) (hf : ∀ p ∈ l, p.Fit maxLen) (hb : chk1 l ≠ 0) :
    Calls Try.prog 13 #[st1 seq a l.length c] w fun e w' => e = .returned (.tuple #[.string ⟨#[]⟩, .int .i64 (chk1 l)]) ∧ Fresh w w' := by
  have HF0 := Lib.hid ((Fresh.refl w).alloc (.cells #[.int .u32 seq, .slice a l.length c] 25))
  have HC := Lib.hid (check_any seq a l c _ (h.move HF0.out) hf)
  dsimp only [st1] at *
  clear h hf
  generalize chk1 l = E at *
  have e0 : (E != 0) = true := by simpa using hb
  clear hb
  go_enter Try.func13, Try.ntmps13
  go_wp2_with (fail)
  refine HC.out.mono ?_
  rintro e w1 ⟨rfl, hf⟩
  have HF := Lib.hid (HF0.out.trans hf)
  clear hf
  go_wp2
  go_ret2
  exact ⟨rfl, HF.out⟩
set_option maxHeartbeats 4000000 in
theorem encode_ok (seq : Int) (a : Option Addr) (l : List P1) (c : Nat) (w : World) (h : RowAt w a (p1s l)) (hf : ∀ p ∈ l, p.Fit maxLen) (h0 : chk1 l = 0) (hs0 : 0 ≤ seq) (hs1 : seq ≤ 4294967295) :
    Calls Try.prog 13 #[st1 seq a l.length c] w fun e w' => e = .returned (.tuple #[.string (tx (enc1L seq l)), .int .i64 0]) ∧ Fresh w w' := by
  have hA := at_new w (.cells #[.int .u32 seq, .slice a l.length c] 25)
  have HF0 := Lib.hid ((Fresh.refl w).alloc (.cells #[.int .u32 seq, .slice a l.length c] 25))
  have hck := check_any seq a l c _ (h.move HF0.out) hf
  rw [h0] at hck
  have HC := Lib.hid hck
  obtain ⟨hlen, hfit⟩ := chk_fit h0 (fun p hp => ⟨(hf p hp).r0, (hf p hp).r1⟩)
  have HFT := Lib.hid hfit
  have HROW := Lib.hid (h.move HF0.out)
  have HENC : Hid (enc1L seq l = be 4 seq.toNat ++ (be 2 l.length ++ l.flatMap podL)) := rfl
  have HP4 := Lib.hid (fun W => put_yes 4 seq W (by decide) hs0 (by omega))
  have HP2 := Lib.hid (fun W => put_yes 2 (l.length : Int) W (by decide) (by omega) (by omega))
  have hw := wrap_u64' hs0 (by omega)
  have hw2 : IntKind.u64.wrap (l.length : Int) = (l.length : Int) := wrap_u64' (by omega) (by omega)
  have HA := Lib.hid hA
  rw [show (4 : Int).toNat = 4 from rfl] at HP4
  rw [show (2 : Int).toNat = 2 from rfl, Int.toNat_natCast] at HP2
  dsimp only [st1] at *
  clear h hf h0 hck hfit hA
  go_enter Try.func13, Try.ntmps13
  go_wp2_with (fail)
  refine HC.out.mono ?_
  rintro e w1 ⟨rfl, hf⟩
  obtain ⟨q0, q1, _⟩ := st1_box (hf.at HA.out)
  have HF1 := Lib.hid (HF0.out.trans hf)
  have HROW1 := Lib.hid (HROW.out.move hf)
  have HA1 := Lib.hid (hf.at HA.out)
  have hBL := bld_new w1
  have HF2 := Lib.hid ((Fresh.refl w1).alloc (.cells #[.pointer none, .slice none 0 0] 71))
  have HA2 := Lib.hid (at_alloc (p := .cells #[.pointer none, .slice none 0 0] 71) HA1.out)
  have HBL := Lib.hid hBL
  have hzl := lt_of_at HA1.out
  clear hf hBL HROW HA HC
  obtain ⟨z, hz⟩ : ∃ z, z = w.heap.size := ⟨_, rfl⟩
  rw [← hz] at q0 q1 HA1 HA2 hzl ⊢
  clear hz
  go_wp2_with (fail)
  refine (HP4.out _).mono ?_
  rintro e w2 ⟨rfl, hf2⟩
  have HW := Lib.hid (HF2.out.trans hf2)
  have HB := Lib.hid (HBL.out.fresh hf2)
  have HAk := Lib.hid (hf2.at HA2.out)
  clear hf2 HBL HF2 HA2 q0 q1 hzl
  obtain ⟨b, hb⟩ : ∃ b, b = w1.heap.size := ⟨_, rfl⟩
  have HBB := Lib.hid hb
  rw [← hb] at HB ⊢
  clear hb
  go_wp2_with (fail)
  refine (write_any b b [] (beS 4 seq.toNat) _ HB.out (by rw [beS_size]; simp) (by have := HW.out.size; rw [HBB.out]; exact this)).mono ?_
  rintro e w3 ⟨rfl, hb3, hf3⟩
  have HW := Lib.hid (HW.out.below hf3 (by rw [HBB.out]; exact Nat.le_refl _))
  have HB := Lib.hid hb3
  obtain ⟨q0, q1, _⟩ := st1_box (HW.out.at HA1.out)
  clear hf3 hb3
  go_wp2_with (fail)
  refine (HP2.out _).mono ?_
  rintro e w4 ⟨rfl, hf4⟩
  have HW := Lib.hid (HW.out.trans hf4)
  have HB := Lib.hid (HB.out.fresh hf4)
  clear hf4 q0 q1
  go_wp2_with (fail)
  refine (write_any b b _ (beS 2 l.length) _ HB.out (by rw [beS_size]; simp [beS, be_length]) (by have := HW.out.size; rw [HBB.out]; exact this)).mono ?_
  rintro e w5 ⟨rfl, hb5, hf5⟩
  have HW := Lib.hid (HW.out.below hf5 (by rw [HBB.out]; exact Nat.le_refl _))
  have HB : Hid (Bld b b (be 4 seq.toNat ++ (be 2 l.length ++ (l.take 0).flatMap podL)) w5) := by
    simpa [Hid, beS] using hb5
  obtain ⟨q0, q1, _⟩ := st1_box (HW.out.at HA1.out)
  clear hf5 hb5
  go_wp2
  clear q0 q1
  go_loopw [27] (fun a27 wr => ∃ (k : Nat), a27 = .int .i64 (k : Int) ∧ k ≤ l.length ∧ Hid (Bld b b (be 4 seq.toNat ++ (be 2 l.length ++ (l.take k).flatMap podL)) wr) ∧ Hid (Fresh w1 wr)) (fun a27 _ => l.length - (intOf a27).toNat)
  case atStart => exact ⟨0, rfl, Nat.zero_le _, HB.out, HW.out⟩
  case round =>
    obtain ⟨k, rfl, hk, HBk, HF⟩ := hrel
    by_cases hlt : k < l.length
    · obtain ⟨g, o1, rfl, hc⟩ := p1_form (HROW1.out.move HF.out) hlt
      obtain ⟨c0, c1, c2, c3⟩ := hc k hlt
      have HFI := Lib.hid (HFT.out _ (List.getElem_mem hlt))
      have HPB := Lib.hid (fun W => podB_any l[k] W (HFI.out.mono (by omega)))
      have HTK : Hid ((l.take (k + 1)).flatMap podL = (l.take k).flatMap podL ++ podL l[k]) := by
        rw [Hid, List.take_succ_eq_append_getElem hlt, List.flatMap_append]; simp
      have HLN : Hid ((be 4 seq.toNat ++ (be 2 l.length ++ (l.take k).flatMap podL)).length + (tx (podL l[k])).size ≤ 140737488355328) := by
        have h1 := flat_le podL 772 (l.take k) (fun p hp => podL_len (HFT.out p (List.mem_of_mem_take hp)))
        have h2 := podL_len HFI.out
        have h3 : (l.take k).length * 772 ≤ 1024 * 772 := Nat.mul_le_mul (by rw [List.length_take]; omega) (Nat.le_refl _)
        rw [Hid, tx_size]
        simp only [List.length_append, be_length]
        omega
      clear hc
      have HPL := Lib.hid (tx_toList (podL l[k]))
      generalize tx (podL l[k]) = PB at *
      generalize podL l[k] = PL at *
      generalize l[k] = p at *
      obtain ⟨file, name, image, r⟩ := p
      dsimp only [P1.val] at *
      have HF1 := Lib.hid ((Fresh.refl wr).alloc (.cells #[.string file, .string name, .string image, .int .u8 r] 66))
      go_wp2_with (fail)
      all_goals try (exfalso; omega)
      refine (HPB.out _).mono ?_
      rintro e w6 ⟨rfl, hf6⟩
      have HFq := Lib.hid (HF1.out.trans hf6)
      have HB6 := Lib.hid (HBk.out.fresh HFq.out)
      have HFr := Lib.hid (HF.out.trans HFq.out)
      clear hf6 HF1
      go_wp2_with (fail)
      refine (write_any b b _ PB _ HB6.out HLN.out (by have := HFr.out.size; rw [HBB.out]; exact this)).mono ?_
      rintro e w7 ⟨rfl, hb7, hf7⟩
      have HW7 := Lib.hid (HFr.out.below hf7 (by rw [HBB.out]; exact Nat.le_refl _))
      have HB7 : Hid (Bld b b (be 4 seq.toNat ++ (be 2 l.length ++ (l.take (k + 1)).flatMap podL)) w7) := by
        rw [Hid, HTK.out, ← List.append_assoc, ← List.append_assoc, ← HPL.out]
        simpa [List.append_assoc] using hb7
      clear hf7 hb7
      go_wp2
      go_roundw
      case rel => exact ⟨k + 1, by simp, by omega, HB7.out, HW7.out⟩
      case measure => simp [intOf]; omega
    · obtain rfl : k = l.length := by omega
      have HB9 : Hid (Bld b b (enc1L seq l) wr) := by
        have := HBk.out
        rw [List.take_length] at this
        rw [Hid, HENC.out]; exact this
      have HS := Lib.hid (str_any b b (enc1L seq l) wr HB9.out (by have := HF.out.size; rw [HBB.out]; exact this))
      go_wp2_with (fail)
      all_goals try (exfalso; omega)
      refine HS.out.mono ?_
      rintro e w8 ⟨rfl, hf8⟩
      have HF9 := Lib.hid ((HF1.out.trans HF.out).below hf8 (by rw [HBB.out]; exact HF1.out.size))
      clear hf8
      go_wp2
      go_ret2
      exact ⟨rfl, HF9.out⟩
end Go.Proofs.Ytphjhlnjfcfdcaa
namespace Go.Proofs.Ytphjhlnjfcfdcaa
open Go.ChangeShapes Go.WideShapes Go.ChangeAt Go.RowKit
set_option maxRecDepth 100000

set_option maxHeartbeats 2000000 in
theorem alike_any (p q : P1) (w : World) : Calls Try.prog 44 #[p.val, q.val] w fun e w' => e = .returned (.bool (P1.eqB p q)) ∧ Fresh w w' := by
  obtain ⟨file, name, image, r⟩ := p
  obtain ⟨file', name', image', r'⟩ := q
  have HE : Hid (P1.eqB ⟨file, name, image, r⟩ ⟨file', name', image', r'⟩ = (decide (file = file') && (decide (name = name') && (decide (image = image') && decide (r = r'))))) := rfl
  have HF := Lib.hid (((Fresh.refl w).alloc (.cells #[.string file, .string name, .string image, .int .u8 r] 66)).alloc (.cells #[.string file', .string name', .string image', .int .u8 r'] 66))
  dsimp only [P1.val]
  generalize P1.eqB ⟨file, name, image, r⟩ ⟨file', name', image', r'⟩ = E at *
  by_cases h1 : file = file'
  case neg =>
    have HR : Hid (E = false) := by rw [Hid, HE.out, decide_eq_false h1]; rfl
    have e1 := tl_ne h1
    clear HE h1
    go_enter Try.func44, Try.ntmps44
    go_wp2
    go_ret
    exact ⟨ret_bool HR.out.symm, HF.out⟩
  subst h1
  by_cases h2 : name = name'
  case neg =>
    have HR : Hid (E = false) := by rw [Hid, HE.out, decide_eq_false h2]; simp
    have e1 := tl_ne h2
    clear HE h2
    go_enter Try.func44, Try.ntmps44
    go_wp2
    go_ret
    exact ⟨ret_bool HR.out.symm, HF.out⟩
  subst h2
  by_cases h3 : image = image'
  case neg =>
    have HR : Hid (E = false) := by rw [Hid, HE.out, decide_eq_false h3]; simp
    have e1 := tl_ne h3
    clear HE h3
    go_enter Try.func44, Try.ntmps44
    go_wp2
    go_ret
    exact ⟨ret_bool HR.out.symm, HF.out⟩
  subst h3
  by_cases h4 : r = r'
  case neg =>
    have HR : Hid (E = false) := by rw [Hid, HE.out, decide_eq_false h4]; simp
    have e1 : (r == r') = false := by rw [beq_eq_false_iff_ne]; exact h4
    clear HE h4
    go_enter Try.func44, Try.ntmps44
    go_wp2
    go_ret
    exact ⟨ret_bool HR.out.symm, HF.out⟩
  subst h4
  have HR : Hid (E = true) := by rw [Hid, HE.out]; simp
  clear HE
  go_enter Try.func44, Try.ntmps44
  go_wp2
  go_ret
  exact ⟨ret_bool HR.out.symm, HF.out⟩
set_option maxHeartbeats 4000000 in
theorem eqFunc_any (l m : List P1) (a a' : Option Addr) (cap cap' : Nat) (w : World) (ha : RowAt w a (p1s l)) (ha' : RowAt w a' (p1s m)) (hl : l.length ≤ 4000000) :
    Calls Try.prog 45 #[.slice a l.length cap, .slice a' m.length cap', .func (.func 44) #[] #[]] w fun e w' => e = .returned (.bool (eqL l m)) ∧ Fresh w w' := by
  have HROW := Lib.hid ha
  have HROW' := Lib.hid ha'
  clear ha ha'
  obtain ⟨R, hR⟩ : ∃ R, R = eqL l m := ⟨_, rfl⟩
  rw [← hR]
  have HR0 := Lib.hid hR
  clear hR
  by_cases hlen : l.length = m.length
  case neg =>
    have HR : Hid (R = false) := by rw [Hid, HR0.out, eqL_len _ _ hlen]
    have e0 : ((l.length : Int) == (m.length : Int)) = false := by rw [beq_eq_false_iff_ne]; omega
    go_enter Try.func45, Try.ntmps45
    go_wp2
    all_goals try (exfalso; omega)
    go_ret
    exact ⟨ret_bool HR.out.symm, Fresh.refl _⟩
  have HN2 : Hid (m.length = l.length) := hlen.symm
  have hd2 := HN2.out
  rw [hd2]
  clear hd2 hlen
  generalize hn : l.length = n at *
  have HNN := Lib.hid hn
  clear hn
  go_enter Try.func45, Try.ntmps45
  go_wp2
  all_goals try (exfalso; omega)
  go_loopw [17] (fun a17 wr => ∃ (k : Nat), a17 = .int .i64 (k : Int) ∧ k ≤ n ∧ Hid (R = eqL (l.drop k) (m.drop k)) ∧ Hid (Fresh w wr)) (fun a17 _ => n - (intOf a17).toNat)
  case atStart => exact ⟨0, rfl, Nat.zero_le _, HR0.out, Fresh.refl _⟩
  case round =>
    obtain ⟨k, rfl, hk, HE, HF⟩ := hrel
    by_cases hltn : k < n
    · have hlt : k < l.length := by rw [HNN.out]; exact hltn
      have hlt' : k < m.length := by rw [HN2.out]; exact hltn
      obtain ⟨g, o1, rfl, hc⟩ := p1_form (HROW.out.move HF.out) hlt
      obtain ⟨g', o1', rfl, hc'⟩ := p1_form (HROW'.out.move HF.out) hlt'
      obtain ⟨c0, c1, c2, c3⟩ := hc k hlt
      obtain ⟨y0, y1, y2, y3⟩ := hc' k hlt'
      have HST : Hid (R = (P1.eqB l[k] m[k] && eqL (l.drop (k + 1)) (m.drop (k + 1)))) := HE.out.trans (eqL_drop hlt hlt')
      have HCALL := Lib.hid (fun W => alike_any l[k] m[k] W)
      have lt1 : g' < wr.heap.size := World.block_lt_of_cell? wr _ y0
      clear hc hc'
      generalize P1.eqB l[k] m[k] = SC at *
      generalize l[k] = p at *
      generalize m[k] = q at *
      clear hlt hlt'
      obtain ⟨s0, s1, s2, n3⟩ := p
      obtain ⟨s0', s1', s2', n3'⟩ := q
      dsimp only [P1.val] at *
      have i1 : (0 : Int) ≤ (k : Int) := by omega
      have i2 : (k : Int) < (n : Int) := by omega
      have HFA := Lib.hid (((Fresh.refl wr).alloc (.cells #[.string s0, .string s1, .string s2, .int .u8 n3] 66)).alloc (.cells #[.string s0', .string s1', .string s2', .int .u8 n3'] 66))
      have HC2 := Lib.hid (HCALL.out ((wr.alloc (.cells #[.string s0, .string s1, .string s2, .int .u8 n3] 66)).alloc (.cells #[.string s0', .string s1', .string s2', .int .u8 n3'] 66)))
      clear HCALL
      cases SC with
      | false =>
        have HR : Hid (R = false) := by rw [Hid, HST.out]; rfl
        clear HST
        go_wp2_with (fail)
        all_goals try (exfalso; omega)
        refine HC2.out.mono ?_
        rintro e W1 ⟨rfl, hf⟩
        have HF2 := Lib.hid ((HF.out.trans HFA.out).trans hf)
        clear hf
        go_wp2
        all_goals try (exfalso; omega)
        go_ret
        exact ⟨ret_bool HR.out.symm, HF2.out⟩
      | true =>
        have HN : Hid (R = eqL (l.drop (k + 1)) (m.drop (k + 1))) := by rw [Hid, HST.out]; rfl
        clear HST
        go_wp2_with (fail)
        all_goals try (exfalso; omega)
        refine HC2.out.mono ?_
        rintro e W1 ⟨rfl, hf⟩
        have HF2 := Lib.hid ((HF.out.trans HFA.out).trans hf)
        clear hf
        go_wp2
        all_goals try (exfalso; omega)
        go_roundw
        case rel => exact ⟨k + 1, by simp, by omega, HN.out, HF2.out⟩
        case measure => simp [intOf]; omega
    · obtain rfl : k = n := by omega
      have HR : Hid (R = true) := by rw [Hid, HE.out, List.drop_of_length_le (by rw [HNN.out]; exact Nat.le_refl _), List.drop_of_length_le (by rw [HN2.out]; exact Nat.le_refl _)]; rfl
      go_wp2
      all_goals try (exfalso; omega)
      go_ret
      exact ⟨ret_bool HR.out.symm, HF.out⟩
def same1 (s t : Int) (l m : List P1) : Bool := decide (s = t) && eqL l m
set_option maxHeartbeats 4000000 in
theorem same_any (s t : Int) (l m : List P1) (a a' : Option Addr) (cap cap' : Nat) (w : World) (ha : RowAt w a (p1s l)) (ha' : RowAt w a' (p1s m)) (hl : l.length ≤ 4000000) :
    Calls Try.prog 16 #[st1 s a l.length cap, st1 t a' m.length cap'] w fun e w' => e = .returned (.bool (same1 s t l m)) ∧ Fresh w w' := by
  have HE : Hid (same1 s t l m = (decide (s = t) && eqL l m)) := rfl
  have HX := Lib.hid (two_boxes w (.cells #[.int .u32 s, .slice a l.length cap] 25) (.cells #[.int .u32 t, .slice a' m.length cap'] 25))
  have HEF := Lib.hid (eqFunc_any l m a a' cap cap' _ (ha.move HX.out.2.2.1) (ha'.move HX.out.2.2.1) hl)
  have HF := Lib.hid HX.out.2.2.1
  clear HX ha ha' hl
  dsimp only [st1]
  generalize same1 s t l m = R at *
  generalize eqL l m = SL at *
  by_cases hs : s = t
  case neg =>
    have HR : Hid (R = false) := by rw [Hid, HE.out, decide_eq_false hs]; rfl
    have e0 : (s == t) = false := by rw [beq_eq_false_iff_ne]; exact hs
    clear HEF HE
    go_enter Try.func16, Try.ntmps16
    go_wp2
    go_ret
    exact ⟨ret_bool HR.out.symm, HF.out⟩
  subst hs
  have HR : Hid (R = SL) := by rw [Hid, HE.out]; simp
  clear HE
  go_enter Try.func16, Try.ntmps16
  go_wp2_with (fail)
  refine HEF.out.mono ?_
  rintro e W1 ⟨rfl, hf⟩
  have hf := Lib.hid (HF.out.trans hf)
  go_wp2
  go_ret
  exact ⟨ret_bool HR.out.symm, hf.out⟩
end Go.Proofs.Ytphjhlnjfcfdcaa
namespace Go.Proofs.Ytphjhlnjfcfdcaa
open Go.ChangeShapes Go.WideShapes Go.ChangeAt Go.RowKit
set_option maxRecDepth 100000

set_option maxHeartbeats 4000000 in
theorem rsame_any (s t : Int) (l m : List P1) (a a' : Option Addr) (cap cap' : Nat) (w : World) (ha : RowAt w a (p1s l)) (ha' : RowAt w a' (p1s m)) (hl : l.length ≤ 4000000) :
    Calls Try.prog 17 #[st1 s a l.length cap, st1 t a' m.length cap'] w fun e w' => e = .returned (.bool (same1 s t l m)) ∧ Fresh w w' := by
  have HE : Hid (same1 s t l m = (decide (s = t) && eqL l m)) := rfl
  have HX := Lib.hid (two_boxes w (.cells #[.int .u32 s, .slice a l.length cap] 30) (.cells #[.int .u32 t, .slice a' m.length cap'] 30))
  have HF0 := Lib.hid HX.out.2.2.1
  have HROW := Lib.hid (ha.move HF0.out)
  have HROW' := Lib.hid (ha'.move HF0.out)
  clear ha ha'
  dsimp only [st1]
  generalize same1 s t l m = R at *
  by_cases hs : s = t
  case neg =>
    have HR : Hid (R = false) := by rw [Hid, HE.out, decide_eq_false hs]; rfl
    have e0 : (s == t) = false := by rw [beq_eq_false_iff_ne]; exact hs
    clear HE
    go_enter Try.func17, Try.ntmps17
    go_wp2
    go_ret
    exact ⟨ret_bool HR.out.symm, HF0.out⟩
  subst hs
  have HR0 : Hid (R = eqL l m) := by rw [Hid, HE.out]; simp
  clear HE
  by_cases hlen : l.length = m.length
  case neg =>
    have HR : Hid (R = false) := by rw [Hid, HR0.out, eqL_len _ _ hlen]
    have e0 : ((l.length : Int) == (m.length : Int)) = false := by rw [beq_eq_false_iff_ne]; omega
    go_enter Try.func17, Try.ntmps17
    go_wp2
    all_goals try (exfalso; omega)
    go_ret
    exact ⟨ret_bool HR.out.symm, HF0.out⟩
  have HN2 : Hid (m.length = l.length) := hlen.symm
  have hd2 := HN2.out
  rw [hd2] at HX HF0 HROW HROW' ⊢
  clear hd2 hlen
  generalize hn : l.length = n at *
  have HNN := Lib.hid hn
  clear hn
  go_enter Try.func17, Try.ntmps17
  go_wp2
  all_goals try (exfalso; omega)
  generalize (w.alloc (.cells #[.int .u32 s, .slice a n cap] 30)).alloc (.cells #[.int .u32 s, .slice a' n cap'] 30) = W0 at *
  obtain ⟨b, hb⟩ : ∃ b, b = w.heap.size := ⟨_, rfl⟩
  rw [← hb] at HX ⊢
  clear hb
  go_loopw [5] (fun a5 wr => ∃ (k : Nat), a5 = .int .i64 (k : Int) ∧ k ≤ n ∧ Hid (R = eqL (l.drop k) (m.drop k)) ∧ Hid (Fresh W0 wr)) (fun a5 _ => n - (intOf a5).toNat)
  case atStart => exact ⟨0, rfl, Nat.zero_le _, HR0.out, Fresh.refl _⟩
  case round =>
    obtain ⟨k, rfl, hk, HE, HF⟩ := hrel
    obtain ⟨b0, b1, _⟩ := st1_box (HF.out.at HX.out.1)
    obtain ⟨d0, d1, _⟩ := st1_box (HF.out.at HX.out.2.1)
    by_cases hltn : k < n
    · have hlt : k < l.length := by rw [HNN.out]; exact hltn
      have hlt' : k < m.length := by rw [HN2.out]; exact hltn
      obtain ⟨g, o1, rfl, hc⟩ := p1_form (HROW.out.move HF.out) hlt
      obtain ⟨g', o1', rfl, hc'⟩ := p1_form (HROW'.out.move HF.out) hlt'
      obtain ⟨c0, c1, c2, c3⟩ := hc k hlt
      obtain ⟨y0, y1, y2, y3⟩ := hc' k hlt'
      have HST : Hid (R = (P1.eqB l[k] m[k] && eqL (l.drop (k + 1)) (m.drop (k + 1)))) := HE.out.trans (eqL_drop hlt hlt')
      clear hc hc'
      generalize l[k] = p at *
      generalize m[k] = q at *
      clear hlt hlt'
      obtain ⟨s0, s1, s2, n3⟩ := p
      obtain ⟨s0', s1', s2', n3'⟩ := q
      dsimp only at *
      have i1 : (0 : Int) ≤ (k : Int) := by omega
      have i2 : (k : Int) < (n : Int) := by omega
      have HEB : Hid (P1.eqB ⟨s0, s1, s2, n3⟩ ⟨s0', s1', s2', n3'⟩ = (decide (s0 = s0') && (decide (s1 = s1') && (decide (s2 = s2') && decide (n3 = n3'))))) := rfl
      generalize P1.eqB ⟨s0, s1, s2, n3⟩ ⟨s0', s1', s2', n3'⟩ = SC at *
      have HNO : Hid (SC = false → R = false) := fun h => by rw [HST.out, h]; rfl
      have HGO : Hid (SC = true → R = eqL (l.drop (k + 1)) (m.drop (k + 1))) := fun h => by rw [HST.out, h]; rfl
      clear HST
      by_cases h1 : s0 = s0'
      case neg =>
        have HR := Lib.hid (HNO.out (by rw [HEB.out, decide_eq_false h1]; rfl))
        have e1 := tl_ne h1
        clear HEB h1 HNO HGO
        go_wp2_with (fail)
        go_quiet (fail)
        go_wp2
        all_goals try (exfalso; omega)
        go_ret
        exact ⟨ret_bool HR.out.symm, (HF0.out.trans HF.out).trans (fresh_drewN _ _)⟩
      subst h1
      by_cases h2 : s1 = s1'
      case neg =>
        have HR := Lib.hid (HNO.out (by rw [HEB.out, decide_eq_false h2]; simp))
        have e1 := tl_ne h2
        clear HEB h2 HNO HGO
        go_wp2_with (fail)
        go_quiet (fail)
        go_wp2
        all_goals try (exfalso; omega)
        go_ret
        exact ⟨ret_bool HR.out.symm, (HF0.out.trans HF.out).trans (fresh_drewN _ _)⟩
      subst h2
      by_cases h3 : s2 = s2'
      case neg =>
        have HR := Lib.hid (HNO.out (by rw [HEB.out, decide_eq_false h3]; simp))
        have e1 := tl_ne h3
        clear HEB h3 HNO HGO
        go_wp2_with (fail)
        go_quiet (fail)
        go_wp2
        all_goals try (exfalso; omega)
        go_ret
        exact ⟨ret_bool HR.out.symm, (HF0.out.trans HF.out).trans (fresh_drewN _ _)⟩
      subst h3
      by_cases h4 : n3 = n3'
      case neg =>
        have HR := Lib.hid (HNO.out (by rw [HEB.out, decide_eq_false h4]; simp))
        have e1 : (n3 == n3') = false := by rw [beq_eq_false_iff_ne]; exact h4
        clear HEB h4 HNO HGO
        go_wp2_with (fail)
        go_quiet (fail)
        go_wp2
        all_goals try (exfalso; omega)
        go_ret
        exact ⟨ret_bool HR.out.symm, (HF0.out.trans HF.out).trans (fresh_drewN _ _)⟩
      subst h4
      have HN := Lib.hid (HGO.out (by rw [HEB.out]; simp))
      clear HEB HNO HGO
      go_wp2_with (fail)
      go_quiet (fail)
      go_wp2
      all_goals try (exfalso; omega)
      go_roundw
      case rel => exact ⟨k + 1, by simp, by omega, HN.out, HF.out.trans (fresh_drewN _ _)⟩
      case measure => simp [intOf]; omega
    · obtain rfl : k = n := by omega
      have HR : Hid (R = true) := by rw [Hid, HE.out, List.drop_of_length_le (by rw [HNN.out]; exact Nat.le_refl _), List.drop_of_length_le (by rw [HN2.out]; exact Nat.le_refl _)]; rfl
      go_wp2
      all_goals try (exfalso; omega)
      go_ret
      exact ⟨ret_bool HR.out.symm, HF0.out.trans HF.out⟩
end Go.Proofs.Ytphjhlnjfcfdcaa
namespace Go.Proofs.Ytphjhlnjfcfdcaa
open Go.ChangeShapes Go.WideShapes Go.ChangeAt Go.RowKit
set_option maxRecDepth 100000

theorem awake13_any (w : World) : Calls Try.prog 34 #[] w fun e w' => e = .returned (.bool true) ∧ Fresh w w' := by
  have HL1 : Hid (∀ W, Calls Try.prog 62 #[.string ⟨#[97, 45, 49]⟩] W fun e w' => e = .returned (.bool true) ∧ W = w') := fun W => label_any ⟨#[97, 45, 49]⟩ W (by decide)
  have HL2 : Hid (∀ W, Calls Try.prog 62 #[.string ⟨#[45, 97]⟩] W fun e w' => e = .returned (.bool false) ∧ W = w') := fun W => label_any ⟨#[45, 97]⟩ W (by decide)
  have HN : Hid (∀ W, Calls Try.prog 63 #[.string ⟨#[97, 46, 98, 45, 99]⟩] W fun e w' => e = .returned (.bool true) ∧ Fresh W w') := fun W => name_any [97, 46, 98, 45, 99] W (by decide)
  have HV := Lib.hid (fun W => var_any W)
  go_enter Try.func34, Try.ntmps34
  go_wp2_with (fail)
  refine (HL1.out _).mono ?_
  rintro e w' ⟨rfl, rfl⟩
  go_wp2_with (fail)
  refine (HL2.out _).mono ?_
  rintro e w' ⟨rfl, rfl⟩
  go_wp2_with (fail)
  refine (HN.out _).mono ?_
  rintro e w1 ⟨rfl, hf⟩
  go_wp2_with (fail)
  refine (HV.out _).mono ?_
  rintro e w' ⟨rfl, rfl⟩
  go_wp2
  go_ret
  exact ⟨rfl, hf⟩
theorem ex_bytes : tx (enc1L 1 []) = ⟨#[0, 0, 0, 1, 0, 0]⟩ := by decide +kernel
theorem ex_encode (w : World) : Calls Try.prog 13 #[.agg #[.int .u32 1, .slice none 0 0]] w fun e w' => e = .returned (.tuple #[.string ⟨#[0, 0, 0, 1, 0, 0]⟩, .int .i64 0]) ∧ Fresh w w' := by
  have := encode_ok 1 none [] 0 w (.nil _ _) (by simp) rfl (by decide) (by decide)
  rw [ex_bytes] at this
  exact this
theorem awake17_any (w : World) : Calls Try.prog 10 #[] w fun e w' => e = .returned (.bool true) ∧ Fresh w w' := by
  have H1 := Lib.hid (fun W => ex_encode W)
  have H2 := Lib.hid (fun W => awake_true W)
  have H3 := Lib.hid (fun W => awake13_any W)
  go_enter Try.func10, Try.ntmps10
  go_wp2_with (fail)
  refine (H1.out _).mono ?_
  rintro e w1 ⟨rfl, hf⟩
  have HF := Lib.hid hf
  clear hf
  go_wp2_with (fail)
  refine (H2.out _).mono ?_
  rintro e w2 ⟨rfl, hf⟩
  have HF := Lib.hid (HF.out.trans hf)
  clear hf
  go_wp2_with (fail)
  refine (H3.out _).mono ?_
  rintro e w3 ⟨rfl, hf⟩
  have HF := Lib.hid (HF.out.trans hf)
  clear hf
  go_wp2
  go_ret
  exact ⟨rfl, HF.out⟩

/-! ### few pods, and short texts -/
def P1.w (p : P1) : Nat := 1 + p.file.size + p.name.size + p.image.size
def smA : Nat → List P1 → Bool
  | _, [] => true
  | n, p :: l => if 20000 < n + p.w then false else smA (n + p.w) l
theorem smA_drop {l : List P1} {k : Nat} (h : k < l.length) (n : Nat) : smA n (l.drop k) = if 20000 < n + l[k].w then false else smA (n + l[k].w) (l.drop (k + 1)) := by
  rw [List.drop_eq_getElem_cons h, smA]
theorem smA_fit : ∀ (l : List P1) (n : Nat), smA n l = true → n ≤ 20000 → l.length + n ≤ 20000 ∧ ∀ p ∈ l, p.file.size ≤ 20000 ∧ p.name.size ≤ 20000 ∧ p.image.size ≤ 20000
  | [], n, _, hn => ⟨by simpa using hn, by simp⟩
  | p :: l, n, h, hn => by
    rw [smA] at h
    split at h
    · simp at h
    · rename_i h1
      obtain ⟨h2, h3⟩ := smA_fit l _ h (by omega)
      unfold P1.w at h1 h2
      refine ⟨by rw [List.length_cons]; omega, fun q hq => ?_⟩
      rcases List.mem_cons.1 hq with rfl | hq
      · omega
      · exact h3 q hq
set_option maxHeartbeats 4000000 in
theorem small1_any (seq : Int) (a : Option Addr) (l : List P1) (c : Nat) (w : World) (h : RowAt w a (p1s l)) (hf : ∀ p ∈ l, p.Fit 140737488355328) (hl : l.length ≤ maxLen) :
    Calls Try.prog 9 #[st1 seq a l.length c] w fun e w' => e = .returned (.bool (smA 0 l)) ∧ Fresh w w' := by
  unfold maxLen at hl
  have HROW := Lib.hid h
  have HFT := Lib.hid hf
  have HF0 := Lib.hid ((Fresh.refl w).alloc (.cells #[.int .u32 seq, .slice a l.length c] 25))
  have HC : Hid (smA 0 l = smA 0 (l.drop 0)) := rfl
  dsimp only [st1]
  clear h hf
  generalize smA 0 l = E at *
  go_enter Try.func9, Try.ntmps9
  go_wp2
  generalize w.alloc (.cells #[.int .u32 seq, .slice a l.length c] 25) = W0 at *
  go_loopw [3, 9] (fun a3 a9 wr => ∃ (k n : Nat), a9 = .int .i64 (k : Int) ∧ a3 = .int .i64 (n : Int) ∧ k ≤ l.length ∧ n ≤ 20000 ∧ Hid (E = smA n (l.drop k)) ∧ Hid (Fresh W0 wr)) (fun _ a9 _ => l.length - (intOf a9).toNat)
  case atStart => exact ⟨0, 0, rfl, rfl, Nat.zero_le _, Nat.zero_le _, HC.out, Fresh.refl _⟩
  case round =>
    obtain ⟨k, n, rfl, rfl, hk, hn, HE, HF⟩ := hrel
    by_cases hlt : k < l.length
    · obtain ⟨g, o1, rfl, hc⟩ := p1_form ((HROW.out.move HF0.out).move HF.out) hlt
      obtain ⟨c0, c1, c2, c3⟩ := hc k hlt
      have hfi := HFT.out _ (List.getElem_mem hlt)
      have HSTEP := Lib.hid (HE.out.trans (smA_drop hlt n))
      clear hc
      generalize l[k] = p at *
      obtain ⟨file, name, image, r⟩ := p
      have y1 : file.size ≤ 140737488355328 := hfi.file
      have y2 : name.size ≤ 140737488355328 := hfi.name
      have y3 : image.size ≤ 140737488355328 := hfi.image
      have HW : Hid (P1.w ⟨file, name, image, r⟩ = 1 + file.size + name.size + image.size) := rfl
      have hadd : (n : Int) + (1 + (file.size : Int) + (name.size : Int) + (image.size : Int)) = ((n + (1 + file.size + name.size + image.size) : Nat) : Int) := by omega
      rw [HW.out] at HSTEP
      dsimp only at *
      clear hfi HW
      have HF1 := Lib.hid ((Fresh.refl wr).alloc (.cells #[.string file, .string name, .string image, .int .u8 r] 66))
      have hs2 : n + (1 + file.size + name.size + image.size) ≤ 562949953450000 := by omega
      generalize n + (1 + file.size + name.size + image.size) = s2 at *
      by_cases h2 : 20000 < s2
      · have HR : Hid (E = false) := by rw [Hid, HSTEP.out, if_pos h2]
        clear HSTEP
        go_wp2
        all_goals try (exfalso; omega)
        go_ret
        exact ⟨ret_bool HR.out.symm, (HF0.out.trans HF.out).trans HF1.out⟩
      · have HN : Hid (E = smA s2 (l.drop (k + 1))) := by rw [Hid, HSTEP.out, if_neg h2]
        clear HSTEP
        go_wp2
        all_goals try (exfalso; omega)
        go_roundw
        case rel => exact ⟨k + 1, s2, by simp, rfl, by omega, by omega, HN.out, HF.out.trans HF1.out⟩
        case measure => simp [intOf]; omega
    · obtain rfl : k = l.length := by omega
      have HR : Hid (E = true) := by rw [Hid, HE.out, List.drop_of_length_le (Nat.le_refl _)]; rfl
      go_wp2
      all_goals try (exfalso; omega)
      go_ret
      exact ⟨ret_bool HR.out.symm, HF0.out.trans HF.out⟩
end Go.Proofs.Ytphjhlnjfcfdcaa
