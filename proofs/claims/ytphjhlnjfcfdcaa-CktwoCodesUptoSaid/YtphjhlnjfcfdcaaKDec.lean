/-
  What package ckone's Decode returns.
-/
import Derived.Test.YtphjhlnjfcfdcaaKTake
namespace Go.Proofs.Ytphjhlnjfcfdcaa
open Go.ChangeShapes Go.WideShapes Go.ChangeAt Go.RowKit
set_option maxRecDepth 100000

/-- What Decode answers. -/
def DecIs (b : ByteArray) (w : World) (r : Ending) (w' : World) : Prop :=
  ∃ a c, r = .returned (.tuple #[st1 (decT b).2.1 a (decT b).2.2.length c, .int .i64 (decT b).1]) ∧ RowAt w' a (p1s (decT b).2.2) ∧ Fresh w w'
set_option maxHeartbeats 4000000 in
theorem decode_any (b : ByteArray) (w : World) (hb : b.size ≤ maxLen) : Calls Try.prog 20 #[.string b] w (DecIs b w) := by
  obtain ⟨s1, s2, s3, e1, e2, e3, q, n, L, hD⟩ := dec1T b
  obtain ⟨⟨hq0, hq1⟩, hn0, hn1⟩ := hD.vals
  have HEQ := Lib.hid (decT_eq hD)
  have HTH := Lib.hid hD
  have HLE := Lib.hid hD.le
  have HZ := Lib.hid (fun h => hD.zero h)
  have hwq := wrap_u32 hq0 hq1
  have HFT : Hid (∀ p ∈ L, p.Fit 4096) := fun p hp => podsT_fit n.toNat s2 e2 p (by rw [hD.h3]; exact hp)
  clear hD
  unfold DecIs
  generalize decT b = R at *
  have ht0 : atT ((w.alloc (.cells #[.int .u32 0, .slice none 0 0] 25)).alloc (.cells #[.string b, .int .i64 0] 85)) (w.heap.size + 1) b 0 := by
    have := at_new (w.alloc (.cells #[.int .u32 0, .slice none 0 0] 25)) (.cells #[.string b, .int .i64 0] 85)
    rw [World.size_alloc] at this
    exact this
  have hA := at_alloc (p := .cells #[.string b, .int .i64 0] 85) (at_new w (.cells #[.int .u32 0, .slice none 0 0] 25))
  have HF0 := Lib.hid (((Fresh.refl w).alloc (.cells #[.int .u32 0, .slice none 0 0] 25)).alloc (.cells #[.string b, .int .i64 0] 85))
  have HA := Lib.hid hA
  have HT0 := Lib.hid ht0
  clear ht0 hA
  go_enter Try.func20, Try.ntmps20
  go_wp2_with (fail)
  generalize (w.alloc (.cells #[.int .u32 0, .slice none 0 0] 25)).alloc (.cells #[.string b, .int .i64 0] 85) = W0 at *
  obtain ⟨z, hz⟩ : ∃ z, z = w.heap.size := ⟨_, rfl⟩
  have HZW := Lib.hid hz
  rw [← hz] at HA HT0 ⊢
  clear hz
  refine (take_at _ hb HT0.out HTH.out.h1).mono ?_
  rintro r w1 ⟨rfl, hm1⟩
  have HM := Lib.hid hm1
  clear hm1
  go_wp2_with (fail)
  refine (takePods_any (z + 1) s1 s2 s3 e1 e2 e3 n L w1 (Nat.le_trans HLE.out.1 hb) HM.out.isT HTH.out.h2 HTH.out.h3 hn0 HZ.out).mono ?_
  rintro r w2 ⟨a, c, rfl, hrow, hab, hm2⟩
  have HAB : Hid (∀ ad : Addr, a = some ad → ad.block ≠ z) := fun ad h => by
    have h1 := hab ad h
    have h2 := atT_lt HM.out.isT
    omega
  clear hab
  obtain ⟨P, hP⟩ : ∃ P, P = if 1024 < n then [] else gotL e3 L := ⟨_, rfl⟩
  rw [← hP] at hrow ⊢
  have HP := Lib.hid hP
  clear hP
  have HROW := Lib.hid hrow
  have HM2 := Lib.hid hm2
  clear hrow hm2
  have hbx : w2.heap[z]? = some (.cells #[.int .u32 0, .slice none 0 0] 25) := by
    have h1 := (HM.out.block z (lt_of_at HA.out) (by omega)).trans HA.out
    have h2 := HM2.out
    split at h2
    · exact (h2.block z (lt_of_at h1) (by omega)).trans h1
    · exact (h2.block z (lt_of_at h1) (by omega)).trans h1
  have hfr : Fresh w w2 := by
    have h1 := Moved.below HF0.out HM.out (by have := HZW.out; omega)
    have h2 := HM2.out
    split at h2
    · exact Moved.below h1 h2 (by have := HZW.out; omega)
    · exact Moved.below h1 h2 (by have := HZW.out; omega)
  by_cases hm : 1024 < n
  · have hm2 := HM2.out
    rw [if_pos hm] at hm2
    have HR : Hid (R = (18, 0, [])) := by rw [Hid, HEQ.out, if_pos hm]
    have HM3 := Lib.hid (hm2.fresh (atT_lt hm2.isT) ((Fresh.refl w2).alloc (.cells #[.int .u32 q, .slice a P.length c] 25)))
    have HEN := Lib.hid (tend_any (z + 1) s2 18 _ HM3.out.isT)
    have he : endT s2 18 = 18 := by simp [endT]
    rw [he] at HEN
    have HBX := Lib.hid (at_alloc (p := .cells #[.int .u32 q, .slice a P.length c] 25) hbx)
    have HFR := Lib.hid (hfr.alloc (.cells #[.int .u32 q, .slice a P.length c] 25))
    clear hm2 HM2 HEQ HROW hbx hfr
    go_wp2_with (fail)
    generalize w2.alloc (.cells #[.int .u32 q, .slice a P.length c] 25) = W3 at *
    refine HEN.out.mono ?_
    rintro r w4 ⟨rfl, rfl⟩
    obtain ⟨q0, q1, qf⟩ := st1_box HBX.out
    have f0 := qf 0
    have f1 := qf 1
    clear qf
    go_wp2
    refine bodyPost_ret (v := .tuple #[st1 0 none 0 0, .int .i64 18]) (by simp [results, Try.results20, go_sem, st1, *]) rfl ⟨none, 0, ?_, ?_, ?_⟩
    · rw [HR.out]; rfl
    · rw [HR.out]; exact .nil _ _
    · exact (HFR.out.setCell (p := ⟨z, 0, none⟩) (by rw [HZW.out]; exact Nat.le_refl _) _).setCell (p := ⟨z, 1, none⟩) (by rw [HZW.out]; exact Nat.le_refl _) _
  have hm2 := HM2.out
  rw [if_neg hm] at hm2
  have HPE : Hid (P = gotL e3 L) := by rw [Hid, HP.out, if_neg hm]
  have HR0 : Hid (R = if endT s3 e3 ≠ 0 then (endT s3 e3, 0, []) else if chk1 L ≠ 0 then (chk1 L, 0, []) else (0, q, L)) := by rw [Hid, HEQ.out, if_neg hm]
  have HM3 := Lib.hid (hm2.fresh (atT_lt hm2.isT) ((Fresh.refl w2).alloc (.cells #[.int .u32 q, .slice a P.length c] 25)))
  have HEN := Lib.hid (tend_any (z + 1) s3 e3 _ HM3.out.isT)
  have HBX := Lib.hid (at_alloc (p := .cells #[.int .u32 q, .slice a P.length c] 25) hbx)
  have HBS := Lib.hid (at_new w2 (.cells #[.int .u32 q, .slice a P.length c] 25))
  have HFR := Lib.hid (hfr.alloc (.cells #[.int .u32 q, .slice a P.length c] 25))
  have HROW := Lib.hid (HROW.out.move ((Fresh.refl w2).alloc (.cells #[.int .u32 q, .slice a P.length c] 25)))
  clear hm2 HM2 HEQ hbx hfr HP hm
  have HPF : Hid (endT s3 e3 = 0 → P = L) := fun h => by
    have h0 : e3 = 0 := by
      unfold endT at h
      split at h
      · simp at h
      · exact h
    rw [HPE.out, gotL, if_pos h0]
  clear HPE
  generalize endT s3 e3 = E at *
  obtain ⟨y, hy⟩ : ∃ y, y = w2.heap.size := ⟨_, rfl⟩
  rw [← hy] at HBS
  have hzy : z < y := by
    have h3 := lt_of_at HM3.out.isT
    rw [World.size_alloc] at h3
    omega
  by_cases hE : E = 0
  case neg =>
    have HR : Hid (R = (E, 0, [])) := by rw [Hid, HR0.out, if_pos hE]
    have e0 : (E != 0) = true := by simpa using hE
    clear HR0 hE HPF
    go_wp2_with (fail)
    rw [← hy]
    clear hy
    generalize w2.alloc (.cells #[.int .u32 q, .slice a P.length c] 25) = W3 at *
    refine HEN.out.mono ?_
    rintro r w4 ⟨rfl, rfl⟩
    obtain ⟨q0, q1, qf⟩ := st1_box HBX.out
    have f0 := qf 0
    have f1 := qf 1
    clear qf
    go_wp2
    refine bodyPost_ret (v := .tuple #[st1 0 none 0 0, .int .i64 E]) (by simp [results, Try.results20, go_sem, st1, *]) rfl ⟨none, 0, ?_, ?_, ?_⟩
    · rw [HR.out]; rfl
    · rw [HR.out]; exact .nil _ _
    · exact (HFR.out.setCell (p := ⟨z, 0, none⟩) (by rw [HZW.out]; exact Nat.le_refl _) _).setCell (p := ⟨z, 1, none⟩) (by rw [HZW.out]; exact Nat.le_refl _) _
  have HPL := Lib.hid (HPF.out hE)
  have HR1 : Hid (R = if chk1 L ≠ 0 then (chk1 L, 0, []) else (0, q, L)) := by rw [Hid, HR0.out, if_neg (by simpa using hE)]
  subst hE
  have HCK : Hid (∀ W, Fresh (w2.alloc (.cells #[.int .u32 q, .slice a P.length c] 25)) W → Calls Try.prog 14 #[.agg #[.int .u32 q, .slice a P.length c]] W fun e w' => e = .returned (.int .i64 (chk1 L)) ∧ Fresh W w') := fun W f => by
    have := check_any q a P c W (HROW.out.move f) (fun p hp => (HFT.out p (by rw [← HPL.out]; exact hp)).mono (by unfold maxLen; omega))
    rw [HPL.out] at this ⊢
    exact this
  clear HR0 HPF HFT
  generalize hC : chk1 L = C at *
  clear hC
  by_cases hC : C = 0
  case neg =>
    have HR : Hid (R = (C, 0, [])) := by rw [Hid, HR1.out, if_pos hC]
    have e0 : (C != 0) = true := by simpa using hC
    clear HR1 hC
    go_wp2_with (fail)
    rw [← hy]
    clear hy
    generalize w2.alloc (.cells #[.int .u32 q, .slice a P.length c] 25) = W3 at *
    refine HEN.out.mono ?_
    rintro r w4 ⟨rfl, rfl⟩
    obtain ⟨d0, d1, _⟩ := st1_box HBS.out
    go_wp2_with (fail)
    refine (HCK.out _ (.refl _)).mono ?_
    rintro r w5 ⟨rfl, hf⟩
    obtain ⟨q0, q1, qf⟩ := st1_box (hf.at HBX.out)
    have f0 := qf 0
    have f1 := qf 1
    have HF5 := Lib.hid (HFR.out.trans hf)
    clear qf hf d0 d1
    go_wp2
    refine bodyPost_ret (v := .tuple #[st1 0 none 0 0, .int .i64 C]) (by simp [results, Try.results20, go_sem, st1, *]) rfl ⟨none, 0, ?_, ?_, ?_⟩
    · rw [HR.out]; rfl
    · rw [HR.out]; exact .nil _ _
    · exact (HF5.out.setCell (p := ⟨z, 0, none⟩) (by rw [HZW.out]; exact Nat.le_refl _) _).setCell (p := ⟨z, 1, none⟩) (by rw [HZW.out]; exact Nat.le_refl _) _
  have HR : Hid (R = (0, q, L)) := by rw [Hid, HR1.out, if_neg (by simpa using hC)]
  subst hC
  clear HR1
  go_wp2_with (fail)
  rw [← hy]
  clear hy
  generalize w2.alloc (.cells #[.int .u32 q, .slice a P.length c] 25) = W3 at *
  refine HEN.out.mono ?_
  rintro r w4 ⟨rfl, rfl⟩
  obtain ⟨d0, d1, _⟩ := st1_box HBS.out
  go_wp2_with (fail)
  refine (HCK.out _ (.refl _)).mono ?_
  rintro r w5 ⟨rfl, hf⟩
  obtain ⟨q0, q1, qf⟩ := st1_box (hf.at HBX.out)
  obtain ⟨d0, d1, _⟩ := st1_box (hf.at HBS.out)
  have f0 := qf 0
  have f1 := qf 1
  have HF5 := Lib.hid (HFR.out.trans hf)
  have HRW5 := Lib.hid (HROW.out.move hf)
  have HB5 := Lib.hid (hf.at HBX.out)
  clear qf hf
  go_wp2
  refine bodyPost_ret (v := .tuple #[st1 q a P.length c, .int .i64 0]) (by simp [results, Try.results20, go_sem, st1, *]) rfl ⟨a, c, ?_, ?_, ?_⟩
  · rw [HR.out, ← HPL.out]
  · rw [HR.out, ← HPL.out]; exact (HRW5.out.set (p := ⟨z, 0, none⟩) HAB.out _).set (p := ⟨z, 1, none⟩) HAB.out _
  · exact (HF5.out.setCell (p := ⟨z, 0, none⟩) (by rw [HZW.out]; exact Nat.le_refl _) _).setCell (p := ⟨z, 1, none⟩) (by rw [HZW.out]; exact Nat.le_refl _) _
end Go.Proofs.Ytphjhlnjfcfdcaa
