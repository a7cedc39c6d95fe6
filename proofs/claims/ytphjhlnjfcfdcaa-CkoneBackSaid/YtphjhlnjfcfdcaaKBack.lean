/-
  bosunlaw17.CkoneBack, walked.
-/
import Derived.Test.YtphjhlnjfcfdcaaKReads
import Derived.Test.YtphjhlnjfcfdcaaKBackM
namespace Go.Proofs.Ytphjhlnjfcfdcaa
open Go.ChangeShapes Go.WideShapes Go.ChangeAt Go.RowKit
set_option maxRecDepth 100000

theorem decT_bad (b : ByteArray) (h : (decT b).1 ≠ 0) : (decT b).2.1 = 0 ∧ (decT b).2.2 = [] := by
  obtain ⟨s1, s2, s3, e1, e2, e3, q, n, L, hD⟩ := dec1T b
  rw [decT_eq hD] at h ⊢
  split
  · exact ⟨rfl, rfl⟩
  split
  · exact ⟨rfl, rfl⟩
  split
  · exact ⟨rfl, rfl⟩
  · rename_i h1 h2 h3
    rw [if_neg h1, if_neg h2, if_neg h3] at h
    exact absurd rfl h
set_option maxHeartbeats 8000000 in
theorem back_any (seq : Int) (a : Option Addr) (l : List P1) (c : Nat) (b : ByteArray) (w : World) (h : RowAt w a (p1s l)) (hf : ∀ p ∈ l, p.Fit 140737488355328) (hl : l.length ≤ maxLen) (hs0 : 0 ≤ seq) (hs1 : seq ≤ 4294967295) (hb : b.size ≤ maxLen) :
    Calls Try.prog 5 #[st1 seq a l.length c, .string b] w fun e w' => e = .returned (.bool true) ∧ Fresh w w' := by
  have HAW := Lib.hid (fun W => awake17_any W)
  have HF0 := Lib.hid ((Fresh.refl w).alloc (.cells #[.int .u32 seq, .slice a l.length c] 25))
  have HA := Lib.hid (at_new w (.cells #[.int .u32 seq, .slice a l.length c] 25))
  have HROW := Lib.hid (h.move HF0.out)
  have HSM := Lib.hid (small1_any seq a l c _ HROW.out hf hl)
  have hfm : ∀ p ∈ l, p.Fit maxLen := fun p hp => (hf p hp).mono (by unfold maxLen; omega)
  have hdb := fun W => decode_any b W hb
  have hbad := decT_bad b
  have hgood := fun q L => @enc_dec b q L
  unfold DecIs at hdb
  unfold maxLen at hb
  obtain ⟨C, q, L, hR⟩ : ∃ C q L, decT b = (C, q, L) := ⟨_, _, _, rfl⟩
  rw [hR] at hdb hbad
  dsimp only at hdb hbad
  have HDB := Lib.hid hdb
  have HBAD : Hid (C ≠ 0 → q = 0 ∧ L = []) := hbad
  have HGOOD : Hid (C = 0 → ∀ a c W, RowAt W a (p1s L) → Calls Try.prog 13 #[.agg #[.int .u32 q, .slice a L.length c]] W fun e w' => e = .returned (.tuple #[.string b, .int .i64 0]) ∧ Fresh W w') := fun hC a c W hrow => by
    obtain ⟨g1, g2, g3, g4, g5⟩ := hgood q L (by rw [hR, hC])
    have := encode_ok q a L c W hrow (fun p hp => (g5 p hp).mono (by unfold maxLen; omega)) g2 g3 g4
    rw [g1] at this
    exact this
  clear hdb hbad hgood hR
  dsimp only [st1] at *
  cases hsm : smA 0 l with
  | false =>
    rw [hsm] at HSM
    clear hsm hf h hfm HDB HBAD HGOOD
    go_enter Try.func5, Try.ntmps5
    go_wp2_with (fail)
    refine HSM.out.mono ?_
    rintro e w1 ⟨rfl, hf⟩
    have HF1 := Lib.hid (HF0.out.trans hf)
    clear hf
    go_wp2_with (fail)
    refine (HAW.out _).mono ?_
    rintro e w2 ⟨rfl, hf⟩
    have HF2 := Lib.hid (HF1.out.trans hf)
    clear hf
    go_wp2
    go_ret
    exact ⟨rfl, HF2.out⟩
  | true =>
    rw [hsm] at HSM
    have hll : l.length ≤ 20000 := (smA_fit l 0 hsm (by omega)).1
    by_cases hbig : 20000 < b.size
    · clear hsm hf h hfm HDB HBAD HGOOD
      go_enter Try.func5, Try.ntmps5
      go_wp2_with (fail)
      refine HSM.out.mono ?_
      rintro e w1 ⟨rfl, hf⟩
      have HF1 := Lib.hid (HF0.out.trans hf)
      clear hf
      go_wp2_with (fail)
      all_goals try (exfalso; omega)
      refine (HAW.out _).mono ?_
      rintro e w2 ⟨rfl, hf⟩
      have HF2 := Lib.hid (HF1.out.trans hf)
      clear hf
      go_wp2
      go_ret
      exact ⟨rfl, HF2.out⟩
    clear hsm
    by_cases hck : chk1 l = 0
    case neg =>
      have HEN := Lib.hid (fun W (f : Fresh w W) => encode_bad seq a l c W (h.move f) hfm hck)
      have e0 : (chk1 l == 0) = false := by rw [beq_eq_false_iff_ne]; exact hck
      dsimp only [st1] at HEN
      generalize chk1 l = K at *
      clear hck h hf hfm
      go_enter Try.func5, Try.ntmps5
      go_wp2_with (fail)
      refine HSM.out.mono ?_
      rintro e w1 ⟨rfl, hf⟩
      have HF1 := Lib.hid (HF0.out.trans hf)
      obtain ⟨q0, q1, _⟩ := st1_box (hf.at HA.out)
      clear hf
      go_wp2_with (fail)
      all_goals try (exfalso; omega)
      refine (HEN.out _ HF1.out).mono ?_
      rintro e w2 ⟨rfl, hf⟩
      have HFX := Lib.hid (HF1.out.trans hf)
      clear hf q0 q1
      go_wp2_with (fail)
      all_goals try (exfalso; omega)
      refine (HDB.out _).mono ?_
      rintro e w5 ⟨ab, cb, rfl, hrow, hf⟩
      have HF5 := Lib.hid (HFX.out.trans hf)
      have HROW5 := Lib.hid hrow
      clear hrow hf HFX
      dsimp only [st1]
      by_cases hC : C = 0
      case neg =>
        have e0 : (C != 0) = true := by simpa using hC
        obtain ⟨rfl, rfl⟩ := HBAD.out hC
        clear HBAD HGOOD
        have HB5 := Lib.hid (at_new w5 (.cells #[.int .u32 0, .slice ab ([] : List P1).length cb] 25))
        have HF6 := Lib.hid (HF5.out.alloc (.cells #[.int .u32 0, .slice ab ([] : List P1).length cb] 25))
        go_wp2_with (fail)
        refine (HAW.out _).mono ?_
        rintro e w6 ⟨rfl, hf⟩
        obtain ⟨q0, q1, _⟩ := st1_box (hf.at HB5.out)
        have HF7 := Lib.hid (HF6.out.trans hf)
        clear hf
        go_wp2
        go_ret
        exact ⟨rfl, HF7.out⟩
      subst hC
      have HEB := Lib.hid (HGOOD.out rfl)
      clear HBAD HGOOD
      have HB5 := Lib.hid (at_new w5 (.cells #[.int .u32 q, .slice ab L.length cb] 25))
      have HF6 := Lib.hid (HF5.out.alloc (.cells #[.int .u32 q, .slice ab L.length cb] 25))
      have HENC := Lib.hid (HEB.out ab cb _ (HROW5.out.move ((Fresh.refl w5).alloc (.cells #[.int .u32 q, .slice ab L.length cb] 25))))
      clear HEB HROW5 HF5
      go_wp2_with (fail)
      refine HENC.out.mono ?_
      rintro e w6 ⟨rfl, hf⟩
      have HF7 := Lib.hid (HF6.out.trans hf)
      clear hf
      go_wp2_with (fail)
      refine (HAW.out _).mono ?_
      rintro e w7 ⟨rfl, hf⟩
      have HF8 := Lib.hid (HF7.out.trans hf)
      clear hf
      go_wp2
      go_ret
      exact ⟨rfl, HF8.out⟩
    case pos =>
      have HEN := Lib.hid (fun W (f : Fresh w W) => encode_ok seq a l c W (h.move f) hfm hck hs0 hs1)
      have hde := dec_enc seq l hs0 hs1 hck (fun p hp => ⟨(hf p hp).r0, (hf p hp).r1⟩)
      have henl : (tx (enc1L seq l)).size ≤ maxLen := by
        obtain ⟨h1, h2⟩ := chk_fit hck (fun p hp => ⟨(hf p hp).r0, (hf p hp).r1⟩)
        have h3 := flat_le podL 772 l (fun p hp => podL_len (h2 p hp))
        have h4 : l.length * 772 ≤ 1024 * 772 := Nat.mul_le_mul h1 (Nat.le_refl _)
        rw [tx_size, enc1L]
        simp only [List.length_append, be_length]
        unfold maxLen
        omega
      have hdx := fun W => decode_any (tx (enc1L seq l)) W henl
      unfold DecIs at hdx
      rw [hde] at hdx
      have HDX := Lib.hid hdx
      dsimp only [st1] at HEN HDX
      have HOF1 : Hid (∀ W a c, RowAt W a (p1s l) → Calls Try.prog 11 #[.agg #[.int .u32 seq, .slice a l.length c]] W (OfIs seq l W)) := fun W a c hr => of_any seq a l c W hr (by omega)
      have HSAME : Hid (∀ W a1 c1 a2 c2, RowAt W a1 (p1s l) → RowAt W a2 (p1s l) → Calls Try.prog 17 #[st1 seq a1 l.length c1, st1 seq a2 l.length c2] W fun e w' => e = .returned (.bool true) ∧ Fresh W w') := fun W a1 c1 a2 c2 h1 h2 => by
        have := rsame_any seq seq l l a1 a2 c1 c2 W h1 h2 (by omega)
        rw [same1_self] at this
        exact this
      unfold OfIs at HOF1
      generalize tx (enc1L seq l) = X at *
      clear hck hfm hde henl hdx hf
      go_enter Try.func5, Try.ntmps5
      go_wp2_with (fail)
      refine HSM.out.mono ?_
      rintro e w1 ⟨rfl, hf⟩
      have HF1 := Lib.hid (HF0.out.trans hf)
      have HA1 := Lib.hid (hf.at HA.out)
      obtain ⟨q0, q1, _⟩ := st1_box HA1.out
      clear hf
      go_wp2_with (fail)
      all_goals try (exfalso; omega)
      refine (HEN.out _ HF1.out).mono ?_
      rintro e w2 ⟨rfl, hf⟩
      have HF2 := Lib.hid (HF1.out.trans hf)
      have HA2 := Lib.hid (hf.at HA1.out)
      clear hf q0 q1
      go_wp2_with (fail)
      refine (HDX.out _).mono ?_
      rintro e w3 ⟨a1, c1, rfl, hrow, hf⟩
      have HB := Lib.hid (at_new w3 (.cells #[.int .u32 seq, .slice a1 l.length c1] 25))
      have HA3 := Lib.hid (at_alloc (p := .cells #[.int .u32 seq, .slice a1 l.length c1] 25) (hf.at HA2.out))
      have HF3 := Lib.hid ((HF2.out.trans hf).alloc (.cells #[.int .u32 seq, .slice a1 l.length c1] 25))
      have HR1 := Lib.hid (hrow.move ((Fresh.refl w3).alloc (.cells #[.int .u32 seq, .slice a1 l.length c1] 25)))
      have HR0 := Lib.hid (h.move HF3.out)
      clear hrow hf HF2 HA2 HA1 HF1 h
      go_wp2_with (fail)
      generalize w3.alloc (.cells #[.int .u32 seq, .slice a1 l.length c1] 25) = V at *
      obtain ⟨y, hy⟩ : ∃ y, y = w3.heap.size := ⟨_, rfl⟩
      obtain ⟨z, hz⟩ : ∃ z, z = w.heap.size := ⟨_, rfl⟩
      rw [← hy] at HB ⊢
      rw [← hz] at HA3 ⊢
      clear hy hz HA
      have HKP : Hid (∀ W, Fresh V W → W.cell? ⟨y, 0, none⟩ = some (.int .u32 seq) ∧ W.cell? ⟨y, 1, none⟩ = some (.slice a1 l.length c1) ∧ W.cell? ⟨z, 0, none⟩ = some (.int .u32 seq) ∧ W.cell? ⟨z, 1, none⟩ = some (.slice a l.length c)) := fun W f =>
        ⟨(st1_box (f.at HB.out)).1, (st1_box (f.at HB.out)).2.1, (st1_box (f.at HA3.out)).1, (st1_box (f.at HA3.out)).2.1⟩
      obtain ⟨k0, k1, k2, k3⟩ := HKP.out V (.refl _)
      have HK : Hid (Fresh V V.drew) := (Fresh.refl V).drew
      have hdf : decide ((0 : Int) ≠ 0) = false := rfl
      go_region_held3 (fun w' => (w'.cell? ⟨y, 0, none⟩ = some (.int .u32 seq) ∧ w'.cell? ⟨y, 1, none⟩ = some (.slice a1 l.length c1) ∧ w'.cell? ⟨z, 0, none⟩ = some (.int .u32 seq) ∧ w'.cell? ⟨z, 1, none⟩ = some (.slice a l.length c))) (go_keep)
        (first
          | (go_at_call 11; (with_reducible refine (HOF1.out _ a1 c1 (HR1.out.move HK.out)).mono ?_); rintro e W2 ⟨a2, c2, rfl, hown, hf⟩; have HRQ := Lib.hid (RowAt.owns hown); have HK := Lib.hid (HK.out.trans hf); obtain ⟨k0, k1, k2, k3⟩ := HKP.out _ HK.out; clear hf hown)
          | (go_at_call 11; (with_reducible refine (HOF1.out _ a c (HR0.out.move HK.out)).mono ?_); rintro e W2 ⟨a3, c3, rfl, hown, hf⟩; have HRQ := Lib.hid (HRQ.out.move hf); have HRP := Lib.hid (RowAt.owns hown); have HK := Lib.hid (HK.out.trans hf); obtain ⟨k0, k1, k2, k3⟩ := HKP.out _ HK.out; clear hf hown)
          | (go_at_call 17; (with_reducible refine (HSAME.out _ _ _ _ _ HRQ.out HRP.out).mono ?_); rintro e W2 ⟨rfl, hf⟩; have HK := Lib.hid (HK.out.trans hf); obtain ⟨k0, k1, k2, k3⟩ := HKP.out _ HK.out; clear hf))
      have HFX := Lib.hid (HF3.out.trans HK.out)
      clear k0 k1 k2 k3 HK HKP HSAME HOF1
      go_wp2_with (fail)
      all_goals try (exfalso; omega)
      refine (HDB.out _).mono ?_
      rintro e w5 ⟨ab, cb, rfl, hrow, hf⟩
      have HF5 := Lib.hid (HFX.out.trans hf)
      have HROW5 := Lib.hid hrow
      clear hrow hf HFX
      dsimp only [st1]
      by_cases hC : C = 0
      case neg =>
        have e0 : (C != 0) = true := by simpa using hC
        obtain ⟨rfl, rfl⟩ := HBAD.out hC
        clear HBAD HGOOD
        have HB5 := Lib.hid (at_new w5 (.cells #[.int .u32 0, .slice ab ([] : List P1).length cb] 25))
        have HF6 := Lib.hid (HF5.out.alloc (.cells #[.int .u32 0, .slice ab ([] : List P1).length cb] 25))
        go_wp2_with (fail)
        refine (HAW.out _).mono ?_
        rintro e w6 ⟨rfl, hf⟩
        obtain ⟨q0, q1, _⟩ := st1_box (hf.at HB5.out)
        have HF7 := Lib.hid (HF6.out.trans hf)
        clear hf
        go_wp2
        go_ret
        exact ⟨rfl, HF7.out⟩
      subst hC
      have HEB := Lib.hid (HGOOD.out rfl)
      clear HBAD HGOOD
      have HB5 := Lib.hid (at_new w5 (.cells #[.int .u32 q, .slice ab L.length cb] 25))
      have HF6 := Lib.hid (HF5.out.alloc (.cells #[.int .u32 q, .slice ab L.length cb] 25))
      have HENC := Lib.hid (HEB.out ab cb _ (HROW5.out.move ((Fresh.refl w5).alloc (.cells #[.int .u32 q, .slice ab L.length cb] 25))))
      clear HEB HROW5 HF5
      go_wp2_with (fail)
      refine HENC.out.mono ?_
      rintro e w6 ⟨rfl, hf⟩
      have HF7 := Lib.hid (HF6.out.trans hf)
      clear hf
      go_wp2_with (fail)
      refine (HAW.out _).mono ?_
      rintro e w7 ⟨rfl, hf⟩
      have HF8 := Lib.hid (HF7.out.trans hf)
      clear hf
      go_wp2
      go_ret
      exact ⟨rfl, HF8.out⟩
end Go.Proofs.Ytphjhlnjfcfdcaa
