/-
  The pods of version 1 that package ckone takes, and what its Decode returns.
-/
import Derived.Test.YtphjhlnjfcfdcaaKTakeM
import Derived.Test.YtphjhlnjfcfdcaaKCheck
namespace Go.Proofs.Ytphjhlnjfcfdcaa
open Go.ChangeShapes Go.WideShapes Go.ChangeAt Go.RowKit
set_option maxRecDepth 100000

theorem ttext_at {b : Nat} {s s1 : ByteArray} {e e1 : Int} {x : ByteArray} (w : World) (hs : s.size ≤ maxLen) (ht : atT w b s e) (h : textT s e = (s1, e1, x)) :
    Calls Try.prog 75 #[.pointer (some ⟨b, 0, none⟩)] w fun r w' => r = .returned (.string x) ∧ Moved b w w' s1 e1 := by
  have := ttext_any b s e w hs ht
  rw [h] at this
  exact this
theorem Moved.below {w w0 w1 : World} {s : ByteArray} {e : Int} {b : Nat} (hf : Fresh w w0) (h : Moved b w0 w1 s e) (hb : w.heap.size ≤ b) : Fresh w w1 :=
  ⟨h.os.trans hf.os, h.tape.trans hf.tape, h.output.trans hf.output, Nat.le_trans hf.size h.size, fun k hk => (h.block k (Nat.lt_of_lt_of_le hk hf.size) (by omega)).trans (hf.block k hk)⟩
theorem Moved.grows {b : Nat} {w w' : World} {s : ByteArray} {e : Int} (h : Moved b w w' s e) : w.grownBy w' (some b) :=
  ⟨h.os, h.tape, h.output, h.size, fun k hk hne => h.block k hk (fun e => hne (by rw [e]))⟩
theorem own_moved {W W' : World} {B e k n b : Nat} {v : Value} {xs : List Value} {s : ByteArray} {x : Int} (h : W.ownsRow B e k v n xs) (m : Moved b W W' s x) (hb : b < B) : W'.ownsRow B e k v n xs := by
  refine World.ownsRow.kept h m.grows ?_
  rcases h' : v.ownBlock with _ | g
  · exact .inl rfl
  · refine .inr fun e2 => ?_
    have := (World.ownsRow.lt h g h').1
    have e3 : g = b := by simpa using e2
    omega
theorem Moved.grown {b : Nat} {w w1 w2 : World} {s : ByteArray} {e : Int} (h : Moved b w w1 s e) {row : Option Nat} (hg : w1.grownBy w2 row) (hr : ∀ g, row = some g → w.heap.size ≤ g) (hb : b < w.heap.size) : Moved b w w2 s e :=
  ⟨(hg.block b (atT_lt h.isT) (fun e => by have := hr b e.symm; omega)).trans h.isT, hg.os.trans h.os, hg.tape.trans h.tape, hg.output.trans h.output, Nat.le_trans h.size hg.size,
    fun k hk hn => (hg.block k (Nat.lt_of_lt_of_le hk h.size) (fun e => by have := hr k e.symm; omega)).trans (h.block k hk hn)⟩
theorem info1 : (Try.prog.info? 66).map (fun i => (i.zero, i.size, i.bytes)) = some (some (.agg #[.string ⟨#[]⟩, .string ⟨#[]⟩, .string ⟨#[]⟩, .int .u8 0]), 4, 56) := by kernel_rfl
theorem wrap_u8 {r : Int} (h0 : 0 ≤ r) (h1 : r < 256) : IntKind.u8.wrap r = r := by
  simp [IntKind.wrap, IntKind.signed, IntKind.bits]; omega
theorem wrap_u32 {r : Int} (h0 : 0 ≤ r) (h1 : r ≤ 4294967295) : IntKind.u32.wrap r = r := by
  simp [IntKind.wrap, IntKind.signed, IntKind.bits]; omega
/-- What the pods come to. -/
def gotL (e : Int) (L : List P1) : List P1 := if e = 0 then L else []
set_option maxHeartbeats 4000000 in
theorem takePods_any (b : Nat) (s s2 s3 : ByteArray) (e e2 e3 n : Int) (L : List P1) (w : World) (hs : s.size ≤ maxLen) (ht : atT w b s e) (h2 : takeT s e 2 = (s2, e2, n)) (h3 : podsT n.toNat s2 e2 = (s3, e3, L)) (hn0 : 0 ≤ n) (hz : e2 ≠ 0 → n = 0) :
    Calls Try.prog 48 #[.pointer (some ⟨b, 0, none⟩)] w fun r w' => ∃ a c, r = .returned (.slice a (if 1024 < n then [] else gotL e3 L).length c) ∧ RowAt w' a (p1s (if 1024 < n then [] else gotL e3 L)) ∧ (∀ ad : Addr, a = some ad → w.heap.size ≤ ad.block) ∧ (if 1024 < n then Moved b w w' s2 18 else Moved b w w' s3 e3) := by
  have hb := atT_lt ht
  have HT := Lib.hid (take_at w hs ht h2)
  have hs2 : s2.size ≤ maxLen := Nat.le_trans (take_len h2) hs
  clear ht h2 hs
  by_cases hm : 1024 < n
  · simp only [if_pos hm]
    clear h3 hz
    go_enter Try.func48, Try.ntmps48
    go_wp2_with (fail)
    refine HT.out.mono ?_
    rintro r w1 ⟨rfl, hm1⟩
    obtain ⟨c0, c1, f0, f1⟩ := atT_facts hm1.isT
    have HM := Lib.hid hm1
    clear hm1
    go_wp2
    go_ret
    exact ⟨none, 0, rfl, .nil _ _, (fun _ h => nomatch h), HM.out.error 18⟩
  simp only [if_neg hm]
  obtain ⟨N, rfl⟩ := Int.eq_ofNat_of_zero_le hn0
  rw [Int.toNat_natCast] at h3
  have H3 : Hid (podsT N s2 e2 = (s3, e3, L)) := h3
  have HZ : Hid (e2 ≠ 0 → N = 0) := fun h => by have := hz h; omega
  have hN : N ≤ 1024 := by omega
  clear h3 hz hm hn0
  obtain ⟨i0, hi, hz0, hz1, hz2⟩ := info_parts info1
  go_enter Try.func48, Try.ntmps48
  go_wp2_with (fail)
  refine HT.out.mono ?_
  rintro r w1 ⟨rfl, hm1⟩
  have HM := Lib.hid hm1
  have hbw : w.heap.size ≤ w1.heap.size := hm1.size
  have HS2 : Hid (s2.size ≤ maxLen) := hs2
  clear hm1 hs2
  go_wp2
  all_goals try (exfalso; omega)
  go_loopw [4, 13] (fun a4 a13 wr => ∃ (k : Nat) (s : ByteArray) (e : Int) (o : Option Addr) (c : Nat) (D : List P1), a13 = .int .u64 (k : Int) ∧ a4 = .slice o k c ∧ k ≤ N ∧ Hid (e ≠ 0 → N = 0) ∧ Hid (s.size ≤ maxLen) ∧ Hid (D.length = k) ∧ Hid (podsT N s2 e2 = aheadT D (podsT (N - k) s e)) ∧ Hid (wr.ownsRow w.heap.size 66 4 (.slice o k c) k (p1s D)) ∧ Hid (Moved b w wr s e)) (fun _ a13 _ => N - (intOf a13).toNat)
  case atStart => exact ⟨0, s2, e2, none, 0, [], rfl, rfl, Nat.zero_le _, HZ.out, HS2.out, rfl, rfl, World.ownsRow_nil _ _ _ _, HM.out⟩
  case round =>
    clear HM HZ HS2
    obtain ⟨k, s, e, o, c, D, rfl, rfl, hk, HZ, HS, HD, HE, HOW, HM⟩ := hrel
    by_cases hlt : k < N
    · obtain rfl : e = 0 := Classical.byContradiction fun h => by have := HZ.out h; omega
      obtain ⟨s1, s2', s3', s4, x1, x2, x3, e1, e2', e3', e4, v, hT⟩ := pod1T s 0
      obtain ⟨hv0, hv1⟩ := hT.v
      have HTT := Lib.hid hT
      have HST := Lib.hid (HE.out.trans (podsT_step hlt (podT_eq hT.h1 hT.h2 hT.h3 hT.h4) D))
      have HLE := Lib.hid hT.le
      have hw8 := wrap_u8 hv0 hv1
      have HBW : Hid (w.heap.size ≤ wr.heap.size) := HM.out.size
      clear hT HE
      go_wp2_with (fail)
      all_goals try (exfalso; omega)
      refine (ttext_at _ HS.out HM.out.isT HTT.out.h1).mono ?_
      rintro r w2 ⟨rfl, hm2⟩
      have HO := Lib.hid (own_moved HOW.out hm2 hb)
      have HM := Lib.hid (HM.out.trans hm2)
      clear hm2
      go_wp2_with (fail)
      refine (ttext_at _ (Nat.le_trans HLE.out.1.1 HS.out) HM.out.isT HTT.out.h2).mono ?_
      rintro r w3 ⟨rfl, hm2⟩
      have HO := Lib.hid (own_moved HO.out hm2 hb)
      have HM := Lib.hid (HM.out.trans hm2)
      clear hm2
      go_wp2_with (fail)
      refine (ttext_at _ (Nat.le_trans HLE.out.1.2.1 HS.out) HM.out.isT HTT.out.h3).mono ?_
      rintro r w4 ⟨rfl, hm2⟩
      have HO := Lib.hid (own_moved HO.out hm2 hb)
      have HM := Lib.hid (HM.out.trans hm2)
      clear hm2
      go_wp2_with (fail)
      refine (take_at _ (Nat.le_trans HLE.out.1.2.2.1 HS.out) HM.out.isT HTT.out.h4).mono ?_
      rintro r w5 ⟨rfl, hm2⟩
      have HO := Lib.hid (own_moved HO.out hm2 hb)
      have HM := Lib.hid (HM.out.trans hm2)
      clear hm2
      have HN := Lib.hid (news7 w5 66 [.string x1, .string x2, .string x3, .int .u8 v])
      have HW5 : Hid (w.heap.size ≤ w5.heap.size) := HM.out.size
      go_wp2_with (at_builtin; refine Hid.out ?_)
      refine Lib.hid ?_
      refine wpList_append_own _ rfl _ _ 23 rfl w.heap.size 66 i0 (.agg #[.string ⟨#[]⟩, .string ⟨#[]⟩, .string ⟨#[]⟩, .int .u8 0]) 4 56 Try.underlying23 hi hz0 hz1 hz2 rfl (by decide) _ k _ rfl (World.ownsRow.alloc HO.out _) ⟨w5.heap.size, 0, none⟩ 1 1 [.string x1, .string x2, .string x3, .int .u8 v] rfl rfl HN.out (by simp [Value.oneCell']) (by unfold maxLen; omega) (by omega) (by rw [World.size_alloc]; have := HW5.out; omega) ?_
      intro v' w6 hown' hgrow _
      obtain ⟨g', cap', rfl⟩ := ownsRow_succ hown'
      have hm6 := (HM.out.fresh (atT_lt HM.out.isT) ((Fresh.refl w5).alloc (.cells #[.string x1, .string x2, .string x3, .int .u8 v] 66))).grown hgrow (fun g e => (World.ownsRow.lt HO.out g e).1) hb
      obtain ⟨c0, c1, f0, f1⟩ := atT_facts hm6.isT
      have HM6 := Lib.hid hm6
      have HOWN := Lib.hid hown'
      clear hown' hgrow hm6
      by_cases he : e4 = 0
      · subst he
        go_wp2
        go_roundw
        case rel =>
          refine ⟨k + 1, s4, 0, some ⟨g', 0, none⟩, cap', D ++ ([⟨x1, x2, x3, v⟩] : List P1), by simp, by simp, by omega, fun h => absurd rfl h, Nat.le_trans HLE.out.1.2.2.2 HS.out, ?_, HST.out, ?_, HM6.out⟩
          · rw [Hid, List.length_append, HD.out]; rfl
          · rw [p1s_snoc]; exact HOWN.out
        case measure => simp [intOf]; omega
      · have e0 : (e4 != 0) = true := by simpa using he
        have HR : Hid (s3 = s4 ∧ e3 = e4) := by
          have h1 := H3.out.symm.trans HST.out
          have h2 := podsT_err (N - (k + 1)) (s := s4) he
          simp only [aheadT, Prod.mk.injEq] at h1
          exact ⟨h1.1.trans h2.1, h1.2.1.trans h2.2⟩
        have HG : Hid (gotL e3 L = []) := by rw [Hid, gotL, HR.out.2, if_neg he]
        go_wp2
        go_ret
        refine ⟨none, 0, ?_, ?_, (fun _ h => nomatch h), ?_⟩
        · rw [HG.out]; rfl
        · rw [HG.out]; exact .nil _ _
        · rw [HR.out.1, HR.out.2]; exact HM6.out
    · obtain rfl : k = N := by omega
      have HR : Hid (s3 = s ∧ e3 = e ∧ L = D) := by
        have h1 := H3.out.symm.trans HE.out
        rw [Nat.sub_self] at h1
        simp only [aheadT, podsT, Prod.mk.injEq, List.append_nil] at h1
        exact h1
      have HG : Hid (gotL e3 L = D) := by
        rw [Hid, gotL, HR.out.2.1, HR.out.2.2]
        by_cases he : e = 0
        · rw [if_pos he]
        · rw [if_neg he]
          have h0 := HZ.out he
          have := HD.out
          rw [h0] at this
          exact (List.eq_nil_of_length_eq_zero this).symm
      go_wp2
      all_goals try (exfalso; omega)
      go_ret
      refine ⟨o, c, ?_, ?_, (fun ad h => (World.ownsRow.lt HOW.out ad.block (by rw [h]; rfl)).1), ?_⟩
      · rw [HG.out, HD.out]; rfl
      · rw [HG.out]; exact RowAt.owns HOW.out
      · rw [HR.out.1, HR.out.2.1]; exact HM.out
end Go.Proofs.Ytphjhlnjfcfdcaa
