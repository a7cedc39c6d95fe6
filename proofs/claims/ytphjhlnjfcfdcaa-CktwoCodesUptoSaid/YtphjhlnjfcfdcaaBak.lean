/-
  bosunlaw18.CktwoBack returns true, for every state of version 2 and every text: no condition.
  What was put is taken as it was, and what was taken is put as it was: states of version 2. No call.
  bosunlaw18.CktwoBack, walked.
  States of version 2 that came in, opened: where their rows lie; how great they are.
-/
import Derived.Test.YtphjhlnjfcfdcaaTwo01
import Derived.Test.YtphjhlnjfcfdcaaKBackM
import Derived.Test.YtphjhlnjfcfdcaaTwo03
import Derived.Test.YtphjhlnjfcfdcaaTwo02
import Derived.Test.YtphjhlnjfcfdcaaKOpen
import Derived.Test.YtphjhlnjfcfdcaaRows
import Derived.WalkKit
import Derived.ProofKit
import Derived.OpenShut
import Derived.ShutString
namespace Go.Proofs.Ytphjhlnjfcfdcaa
open Go.ChangeShapes Go.WideShapes Go.ChangeAt Go.RowKit

/-! ### put, then taken -/
theorem upT_list (n v : Nat) (most : Int) (r : List UInt8) (h : okN n = true) (hv : v < 256 ^ n) (hm : (v : Int) ≤ most) : upT (tx (be n v ++ r)) 0 n most = (tx r, 0, (v : Int)) := by
  have h1 := take_list n v r h
  rw [Nat.mod_eq_of_lt hv] at h1
  unfold upT
  rw [h1]
  rw [if_neg (by show ¬ most < (v : Int); omega)]
section
variable {α : Type} {f : ByteArray → Int → ByteArray × Int × α} {g : α → List UInt8}
theorem many_list : ∀ (l : List α) (r : List UInt8), (∀ x ∈ l, ∀ r, f (tx (g x ++ r)) 0 = (tx r, 0, x)) → manyT f l.length (tx (l.flatMap g ++ r)) 0 = (tx r, 0, l)
  | [], r, _ => rfl
  | x :: l, r, h => by
    have h1 := h x (by simp) (l.flatMap g ++ r)
    have h2 := many_list l r (fun q hq => h q (by simp [hq]))
    rw [List.length_cons, manyT, List.flatMap_cons, List.append_assoc, h1]
    dsimp only
    rw [h2]
theorem many_back (hb : ∀ {s s1 : ByteArray} {e : Int} {x : α}, f s e = (s1, 0, x) → e = 0 ∧ s.data.toList = g x ++ s1.data.toList) :
    ∀ (n : Nat) {s s3 : ByteArray} {e : Int} {L : List α}, manyT f n s e = (s3, 0, L) → e = 0 ∧ s.data.toList = L.flatMap g ++ s3.data.toList
  | 0, s, s3, e, L, h => by
    simp only [manyT, Prod.mk.injEq] at h
    obtain ⟨rfl, rfl, rfl⟩ := h
    exact ⟨rfl, rfl⟩
  | n + 1, s, s3, e, L, h => by
    obtain ⟨s1, e1, p, hp⟩ : ∃ s1 e1 p, f s e = (s1, e1, p) := ⟨_, _, _, rfl⟩
    rw [manyT, hp] at h
    simp only [Prod.mk.injEq] at h
    obtain ⟨h1, h2, h3⟩ := h
    obtain ⟨rfl, h4⟩ := many_back hb n (s := s1) (e := e1) (s3 := s3) (L := (manyT f n s1 e1).2.2) (by rw [← h1, ← h2])
    obtain ⟨h5, h6⟩ := hb hp
    refine ⟨h5, ?_⟩
    rw [h6, h4, ← h3, List.flatMap_cons, List.append_assoc]
end
theorem cont_list {c : C2} (h : c.name.size ≤ 4096 ∧ c.image.size ≤ 4096) (r : List UInt8) : contT (tx (cL c ++ r)) 0 = (tx r, 0, c) := by
  have h1 := text_list c.name (txtL c.image ++ r) h.1
  have h2 := text_list c.image r h.2
  have := contT_eq h1 h2
  rw [cL, List.append_assoc]
  exact this
theorem pod2_list {p : P2} (h : p.Fit 4096) (hl : p.cs.length ≤ 16) (r : List UInt8) : pod2T (tx (pod2L p ++ r)) 0 = (tx r, 0, p) := by
  have h1 := text_list p.file (txtL p.name ++ (txtL p.ns ++ (be 1 p.r.toNat ++ (be 2 p.g.toNat ++ (be 1 p.cs.length ++ (p.cs.flatMap cL ++ r)))))) h.file
  have h2 := text_list p.name (txtL p.ns ++ (be 1 p.r.toNat ++ (be 2 p.g.toNat ++ (be 1 p.cs.length ++ (p.cs.flatMap cL ++ r))))) h.name
  have h3 := text_list p.ns (be 1 p.r.toNat ++ (be 2 p.g.toNat ++ (be 1 p.cs.length ++ (p.cs.flatMap cL ++ r)))) h.ns
  have h4 := take_list 1 p.r.toNat (be 2 p.g.toNat ++ (be 1 p.cs.length ++ (p.cs.flatMap cL ++ r))) (by decide)
  have h5 := take_list 2 p.g.toNat (be 1 p.cs.length ++ (p.cs.flatMap cL ++ r)) (by decide)
  have h6 := upT_list 1 p.cs.length 16 (p.cs.flatMap cL ++ r) (by decide) (by rw [show 256 ^ 1 = 256 from rfl]; omega) (by omega)
  have h7 := many_list (f := contT) (g := cL) p.cs r (fun c hc r => cont_list (h.cs c hc) r)
  have hr0 := h.r0
  have hr1 := h.r1
  have hg0 := h.g0
  have hg1 := h.g1
  rw [show ((1 : Nat) : Int) = 1 from rfl, show ((p.r.toNat % 256 ^ 1 : Nat) : Int) = p.r from by rw [show 256 ^ 1 = 256 from rfl]; omega] at h4
  rw [show ((2 : Nat) : Int) = 2 from rfl, show ((p.g.toNat % 256 ^ 2 : Nat) : Int) = p.g from by rw [show 256 ^ 2 = 65536 from rfl]; omega] at h5
  rw [show ((1 : Nat) : Int) = 1 from rfl] at h6
  have hP : Pod2T _ 0 _ _ _ _ _ _ (tx r) p.file p.name p.ns 0 0 0 0 0 0 0 p.r p.g (p.cs.length : Int) p.cs := ⟨h1, h2, h3, h4, h5, h6, by rw [Int.toNat_natCast]; exact h7⟩
  have := pod2T_eq hP
  rw [pod2L]
  simp only [List.append_assoc]
  exact this
theorem dec_enc2 (seq : Int) (l : List P2) (hs0 : 0 ≤ seq) (hs1 : seq ≤ 18446744073709551615) (h : chk2 l = 0) (hr : ∀ p ∈ l, p.Num) : dec2 (tx (enc2L seq l)) = (0, seq, l) := by
  obtain ⟨hl, hf⟩ := chk2_fit h hr
  have h1 := take_list 8 seq.toNat (be 2 l.length ++ l.flatMap pod2L) (by decide)
  have h2 := upT_list 2 l.length 1024 (l.flatMap pod2L) (by decide) (by rw [show 256 ^ 2 = 65536 from rfl]; omega) (by omega)
  have h3 := many_list (f := pod2T) (g := pod2L) l [] (fun p hp r => pod2_list ((hf p hp).1.mono (by omega)) (hf p hp).2 r)
  rw [show ((8 : Nat) : Int) = 8 from rfl, show ((seq.toNat % 256 ^ 8 : Nat) : Int) = seq from by rw [show 256 ^ 8 = 18446744073709551616 from rfl]; omega] at h1
  rw [show ((2 : Nat) : Int) = 2 from rfl] at h2
  rw [List.append_nil] at h3
  have hD : Dec2T (tx (enc2L seq l)) (tx (be 2 l.length ++ l.flatMap pod2L)) (tx (l.flatMap pod2L)) (tx []) 0 0 0 seq (l.length : Int) l := ⟨h1, h2, by rw [Int.toNat_natCast]; exact h3⟩
  rw [dec2_eq hD, dec2E, if_neg (by simp [endT, tx_size]), if_neg (by simp [h])]

/-! ### taken, then put -/
theorem upT_back {s s1 : ByteArray} {e v most : Int} {n : Nat} (h : upT s e n most = (s1, 0, v)) : e = 0 ∧ s.data.toList = be n v.toNat ++ s1.data.toList := by
  unfold upT at h
  split at h
  · simp at h
  · exact take_back h
theorem cont_back {s s1 : ByteArray} {e : Int} {c : C2} (h : contT s e = (s1, 0, c)) : e = 0 ∧ s.data.toList = cL c ++ s1.data.toList := by
  obtain ⟨t1, d1, x1, h1⟩ : ∃ t1 d1 x1, textT s e = (t1, d1, x1) := ⟨_, _, _, rfl⟩
  obtain ⟨t2, d2, x2, h2⟩ : ∃ t2 d2 x2, textT t1 d1 = (t2, d2, x2) := ⟨_, _, _, rfl⟩
  rw [contT_eq h1 h2] at h
  simp only [Prod.mk.injEq] at h
  obtain ⟨rfl, rfl, rfl⟩ := h
  obtain ⟨rfl, b2⟩ := text_back h2
  obtain ⟨h0, b1⟩ := text_back h1
  refine ⟨h0, ?_⟩
  rw [b1, b2, cL]
  simp only [List.append_assoc]
theorem pod2_back {s s7 : ByteArray} {e : Int} {p : P2} (h : pod2T s e = (s7, 0, p)) : e = 0 ∧ s.data.toList = pod2L p ++ s7.data.toList := by
  obtain ⟨s1, s2, s3, s4, s5, s6, t7, x1, x2, x3, e1, e2, e3, e4, e5, e6, e7, v, g, n, L, hT⟩ := pod2T_ex s e
  have hlen := hT.len
  rw [pod2T_eq hT] at h
  simp only [Prod.mk.injEq] at h
  obtain ⟨rfl, rfl, rfl⟩ := h
  obtain ⟨rfl, b7⟩ := many_back (fun h => cont_back h) _ hT.h7
  obtain ⟨rfl, b6⟩ := upT_back (n := 1) hT.h6
  obtain ⟨rfl, b5⟩ := take_back (n := 2) hT.h5
  obtain ⟨rfl, b4⟩ := take_back (n := 1) hT.h4
  obtain ⟨rfl, b3⟩ := text_back hT.h3
  obtain ⟨rfl, b2⟩ := text_back hT.h2
  obtain ⟨h0, b1⟩ := text_back hT.h1
  refine ⟨h0, ?_⟩
  rw [b1, b2, b3, b4, b5, b6, b7, pod2L]
  dsimp only
  rw [hlen]
  simp only [List.append_assoc]
theorem enc_dec2 {b : ByteArray} {q : Int} {L : List P2} (h : dec2 b = (0, q, L)) : tx (enc2L q L) = b ∧ chk2 L = 0 ∧ 0 ≤ q ∧ q ≤ 18446744073709551615 ∧ ∀ p ∈ L, p.Fit 4096 := by
  obtain ⟨s1, s2, s3, e1, e2, e3, q', n, L', hD⟩ := dec2T_ex b
  have hv := hD.vals
  have hfit := dec2_fit b
  have hlen := hD.fit.2
  rw [h] at hfit
  rw [dec2_eq hD, dec2E] at h
  split at h
  · rename_i h1; simp at h; exact absurd h.1 h1
  split at h
  · rename_i h1; simp at h; exact absurd h.1 h1
  · rename_i hE hC
    simp only [Prod.mk.injEq, true_and] at h
    obtain ⟨rfl, rfl⟩ := h
    have hE' : endT s3 e3 = 0 := by simpa using hE
    have he3 : e3 = 0 ∧ s3.size = 0 := by
      unfold endT at hE'
      split at hE'
      · simp at hE'
      · rename_i h2
        exact ⟨hE', Classical.byContradiction fun h3 => h2 ⟨hE', h3⟩⟩
    obtain ⟨rfl, hs3⟩ := he3
    have hs3' : s3.data.toList = [] := List.eq_nil_of_length_eq_zero (by rw [← Lib.size_eq]; exact hs3)
    obtain ⟨rfl, b3⟩ := many_back (fun h => pod2_back h) _ hD.h3
    obtain ⟨rfl, b2⟩ := upT_back (n := 2) hD.h2
    obtain ⟨_, b1⟩ := take_back (n := 8) hD.h1
    refine ⟨?_, by simpa using hC, hv.1.1, hv.1.2, fun p hp => (hfit.1 p hp).1⟩
    apply list_ext
    rw [tx_toList, enc2L, b1, b2, b3, hs3', List.append_nil, hlen]
theorem dec2_bad (b : ByteArray) (h : (dec2 b).1 ≠ 0) : (dec2 b).2.1 = 0 ∧ (dec2 b).2.2 = [] := by
  obtain ⟨s1, s2, s3, e1, e2, e3, q, n, L, hD⟩ := dec2T_ex b
  rw [dec2_eq hD, dec2E] at h ⊢
  split
  · exact ⟨rfl, rfl⟩
  split
  · exact ⟨rfl, rfl⟩
  · rename_i h1 h2
    rw [if_neg h1, if_neg h2] at h
    exact absurd rfl h
end Go.Proofs.Ytphjhlnjfcfdcaa
namespace Go.Proofs.Ytphjhlnjfcfdcaa
open Go.ChangeShapes Go.WideShapes Go.ChangeAt Go.RowKit
set_option maxRecDepth 100000

set_option maxHeartbeats 8000000 in
theorem back2_any (seq : Int) (a : Option Addr) (l : List P2) (c : Nat) (b : ByteArray) (w : World) (h : AtL l w a) (hf : ∀ p ∈ l, p.Fit 140737488355328) (hl : l.length ≤ maxLen) (hcl : ∀ p ∈ l, p.cs.length ≤ maxLen) (hs0 : 0 ≤ seq) (hs1 : seq ≤ 18446744073709551615) (hb : b.size ≤ maxLen) :
    Calls Try.prog 8 #[st2 seq a l.length c, .string b] w fun e w' => e = .returned (.bool true) ∧ Fresh w w' := by
  have HAW := Lib.hid (fun W => awake18_any W)
  have HF0 := Lib.hid ((Fresh.refl w).alloc (.cells #[.int .u64 seq, .slice a l.length c] 49))
  have HA := Lib.hid (at_new w (.cells #[.int .u64 seq, .slice a l.length c] 49))
  have HROW := Lib.hid (h.move HF0.out)
  have HSM := Lib.hid (small2_at seq a l c _ HROW.out hf hl hcl)
  have hnum : ∀ p ∈ l, p.Num := fun p hp => ⟨(hf p hp).r0, (hf p hp).r1, (hf p hp).g0, (hf p hp).g1⟩
  have hfm : ∀ p ∈ l, p.Fit maxLen := fun p hp => (hf p hp).mono (by unfold maxLen; omega)
  have hdb := fun W => decode2_at b W hb
  have hbad := dec2_bad b
  have hgood := fun q L => @enc_dec2 b q L
  unfold DecAt at hdb
  unfold maxLen at hb
  obtain ⟨C, q, L, hR⟩ : ∃ C q L, dec2 b = (C, q, L) := ⟨_, _, _, rfl⟩
  rw [hR] at hdb hbad
  dsimp only at hdb hbad
  have HDB := Lib.hid hdb
  have HBAD : Hid (C ≠ 0 → q = 0 ∧ L = []) := hbad
  have HGOOD : Hid (C = 0 → ∀ a c W, AtL L W a → Calls Try.prog 26 #[.agg #[.int .u64 q, .slice a L.length c]] W fun e w' => e = .returned (.tuple #[.string b, .int .i64 0]) ∧ Fresh W w') := fun hC a c W hrow => by
    obtain ⟨g1, g2, g3, g4, g5⟩ := hgood q L (by rw [hR, hC])
    have := encode2_at_ok q a L c W hrow (fun p hp => (g5 p hp).mono (by unfold maxLen; omega)) g2 g3 g4
    rw [g1] at this
    exact this
  clear hdb hbad hgood hR
  dsimp only [st2] at *
  cases hsm : smB 0 l with
  | false =>
    rw [hsm] at HSM
    clear hsm hf h hfm HDB HBAD HGOOD
    go_enter Try.func8, Try.ntmps8
    go_wp2_with (fail)
    refine HSM.out.mono ?_
    rintro e w1 ⟨rfl, hf⟩
    have HF1 := Lib.hid (HF0.out.trans hf)
    clear hf
    go_wp2_with (fail)
    refine (HAW.out _).mono ?_
    rintro e w2 ⟨rfl, hf⟩
    have HF2 := Lib.hid (HF1.out.trans hf)
    clear hf
    go_wp2
    go_ret
    exact ⟨rfl, HF2.out⟩
  | true =>
    rw [hsm] at HSM
    by_cases hbig : 20000 < b.size
    · clear hsm hf h hfm HDB HBAD HGOOD
      go_enter Try.func8, Try.ntmps8
      go_wp2_with (fail)
      refine HSM.out.mono ?_
      rintro e w1 ⟨rfl, hf⟩
      have HF1 := Lib.hid (HF0.out.trans hf)
      clear hf
      go_wp2_with (fail)
      all_goals try (exfalso; omega)
      refine (HAW.out _).mono ?_
      rintro e w2 ⟨rfl, hf⟩
      have HF2 := Lib.hid (HF1.out.trans hf)
      clear hf
      go_wp2
      go_ret
      exact ⟨rfl, HF2.out⟩
    clear hsm
    by_cases hck : chk2 l = 0
    case neg =>
      have HEN := Lib.hid (fun W (f : Fresh w W) => encode2_at_bad seq a l c W (h.move f) hfm hck)
      have e0 : (chk2 l == 0) = false := by rw [beq_eq_false_iff_ne]; exact hck
      dsimp only [st2] at HEN
      generalize chk2 l = K at *
      clear hck h hf hfm
      go_enter Try.func8, Try.ntmps8
      go_wp2_with (fail)
      refine HSM.out.mono ?_
      rintro e w1 ⟨rfl, hf⟩
      have HF1 := Lib.hid (HF0.out.trans hf)
      obtain ⟨q0, q1, _⟩ := st2_box (hf.at HA.out)
      clear hf
      go_wp2_with (fail)
      all_goals try (exfalso; omega)
      refine (HEN.out _ HF1.out).mono ?_
      rintro e w2 ⟨rfl, hf⟩
      have HFX := Lib.hid (HF1.out.trans hf)
      clear hf q0 q1
      go_wp2_with (fail)
      all_goals try (exfalso; omega)
      refine (HDB.out _).mono ?_
      rintro e w5 ⟨ab, cb, rfl, hrow, hf⟩
      have HF5 := Lib.hid (HFX.out.trans hf)
      have HROW5 := Lib.hid hrow
      clear hrow hf HFX
      dsimp only [st2]
      by_cases hC : C = 0
      case neg =>
        have e0 : (C != 0) = true := by simpa using hC
        obtain ⟨rfl, rfl⟩ := HBAD.out hC
        clear HBAD HGOOD
        have HB5 := Lib.hid (at_new w5 (.cells #[.int .u64 0, .slice ab ([] : List P2).length cb] 49))
        have HF6 := Lib.hid (HF5.out.alloc (.cells #[.int .u64 0, .slice ab ([] : List P2).length cb] 49))
        go_wp2_with (fail)
        refine (HAW.out _).mono ?_
        rintro e w6 ⟨rfl, hf⟩
        obtain ⟨q0, q1, _⟩ := st2_box (hf.at HB5.out)
        have HF7 := Lib.hid (HF6.out.trans hf)
        clear hf
        go_wp2
        go_ret
        exact ⟨rfl, HF7.out⟩
      subst hC
      have HEB := Lib.hid (HGOOD.out rfl)
      clear HBAD HGOOD
      have HB5 := Lib.hid (at_new w5 (.cells #[.int .u64 q, .slice ab L.length cb] 49))
      have HF6 := Lib.hid (HF5.out.alloc (.cells #[.int .u64 q, .slice ab L.length cb] 49))
      have HENC := Lib.hid (HEB.out ab cb _ (HROW5.out.move ((Fresh.refl w5).alloc (.cells #[.int .u64 q, .slice ab L.length cb] 49))))
      clear HEB HROW5 HF5
      go_wp2_with (fail)
      refine HENC.out.mono ?_
      rintro e w6 ⟨rfl, hf⟩
      have HF7 := Lib.hid (HF6.out.trans hf)
      clear hf
      go_wp2_with (fail)
      refine (HAW.out _).mono ?_
      rintro e w7 ⟨rfl, hf⟩
      have HF8 := Lib.hid (HF7.out.trans hf)
      clear hf
      go_wp2
      go_ret
      exact ⟨rfl, HF8.out⟩
    case pos =>
      have HEN := Lib.hid (fun W (f : Fresh w W) => encode2_at_ok seq a l c W (h.move f) hfm hck hs0 hs1)
      have hde := dec_enc2 seq l hs0 hs1 hck hnum
      have henl : (tx (enc2L seq l)).size ≤ maxLen := by
        obtain ⟨h1, h2⟩ := chk2_fit hck hnum
        have h3 := flat_le pod2L 9000 l (fun p hp => pod2L_len (h2 p hp).1 (h2 p hp).2)
        have h4 : l.length * 9000 ≤ 1024 * 9000 := Nat.mul_le_mul h1 (Nat.le_refl _)
        rw [tx_size, enc2L]
        simp only [List.length_append, be_length]
        unfold maxLen
        omega
      have hll : l.length ≤ 1024 := (chk2_fit hck hnum).1
      have hc16 : ∀ p ∈ l, p.cs.length ≤ 4000000 := fun p hp => Nat.le_trans ((chk2_fit hck hnum).2 p hp).2 (by decide)
      have hdx := fun W => decode2_at (tx (enc2L seq l)) W henl
      unfold DecAt at hdx
      rw [hde] at hdx
      have HDX := Lib.hid hdx
      dsimp only [st2] at HEN HDX
      have HOF1 : Hid (∀ W a c, AtL l W a → Calls Try.prog 24 #[.agg #[.int .u64 seq, .slice a l.length c]] W fun r w' => ∃ a c, r = .returned (.agg #[.int .u64 seq, .slice a l.length c]) ∧ AtL l w' a ∧ Fresh W w') := fun W a c hr => of2_at seq a l c W hr (by omega) hc16
      have HSAME : Hid (∀ W a1 c1 a2 c2, AtL l W a1 → AtL l W a2 → Calls Try.prog 30 #[.agg #[.int .u64 seq, .slice a1 l.length c1], .agg #[.int .u64 seq, .slice a2 l.length c2]] W fun e w' => e = .returned (.bool true) ∧ Fresh W w') := fun W a1 c1 a2 c2 h1 h2 => by
        have := rsame2_at seq seq l l a1 a2 c1 c2 W h1 h2 (by omega) hc16
        rw [same2_self] at this
        exact this
      generalize tx (enc2L seq l) = X at *
      clear hck hfm hde henl hdx hf hnum
      go_enter Try.func8, Try.ntmps8
      go_wp2_with (fail)
      refine HSM.out.mono ?_
      rintro e w1 ⟨rfl, hf⟩
      have HF1 := Lib.hid (HF0.out.trans hf)
      have HA1 := Lib.hid (hf.at HA.out)
      obtain ⟨q0, q1, _⟩ := st2_box HA1.out
      clear hf
      go_wp2_with (fail)
      all_goals try (exfalso; omega)
      refine (HEN.out _ HF1.out).mono ?_
      rintro e w2 ⟨rfl, hf⟩
      have HF2 := Lib.hid (HF1.out.trans hf)
      have HA2 := Lib.hid (hf.at HA1.out)
      clear hf q0 q1
      go_wp2_with (fail)
      refine (HDX.out _).mono ?_
      rintro e w3 ⟨a1, c1, rfl, hrow, hf⟩
      have HB := Lib.hid (at_new w3 (.cells #[.int .u64 seq, .slice a1 l.length c1] 49))
      have HA3 := Lib.hid (at_alloc (p := .cells #[.int .u64 seq, .slice a1 l.length c1] 49) (hf.at HA2.out))
      have HF3 := Lib.hid ((HF2.out.trans hf).alloc (.cells #[.int .u64 seq, .slice a1 l.length c1] 49))
      have HR1 := Lib.hid (hrow.move ((Fresh.refl w3).alloc (.cells #[.int .u64 seq, .slice a1 l.length c1] 49)))
      have HR0 := Lib.hid (h.move HF3.out)
      clear hrow hf HF2 HA2 HA1 HF1 h
      go_wp2_with (fail)
      generalize w3.alloc (.cells #[.int .u64 seq, .slice a1 l.length c1] 49) = V at *
      obtain ⟨y, hy⟩ : ∃ y, y = w3.heap.size := ⟨_, rfl⟩
      obtain ⟨z, hz⟩ : ∃ z, z = w.heap.size := ⟨_, rfl⟩
      rw [← hy] at HB ⊢
      rw [← hz] at HA3 ⊢
      clear hy hz HA
      have HKP : Hid (∀ W, Fresh V W → W.cell? ⟨y, 0, none⟩ = some (.int .u64 seq) ∧ W.cell? ⟨y, 1, none⟩ = some (.slice a1 l.length c1) ∧ W.cell? ⟨z, 0, none⟩ = some (.int .u64 seq) ∧ W.cell? ⟨z, 1, none⟩ = some (.slice a l.length c)) := fun W f =>
        ⟨(st2_box (f.at HB.out)).1, (st2_box (f.at HB.out)).2.1, (st2_box (f.at HA3.out)).1, (st2_box (f.at HA3.out)).2.1⟩
      obtain ⟨k0, k1, k2, k3⟩ := HKP.out V (.refl _)
      have HK : Hid (Fresh V V.drew) := (Fresh.refl V).drew
      have hdf : decide ((0 : Int) ≠ 0) = false := rfl
      go_region_held3 (fun w' => (w'.cell? ⟨y, 0, none⟩ = some (.int .u64 seq) ∧ w'.cell? ⟨y, 1, none⟩ = some (.slice a1 l.length c1) ∧ w'.cell? ⟨z, 0, none⟩ = some (.int .u64 seq) ∧ w'.cell? ⟨z, 1, none⟩ = some (.slice a l.length c))) (go_keep)
        (first
          | (go_at_call 24; (with_reducible refine (HOF1.out _ a1 c1 (HR1.out.move HK.out)).mono ?_); rintro e W2 ⟨a2, c2, rfl, hown, hf⟩; have HRQ := Lib.hid hown; have HK := Lib.hid (HK.out.trans hf); obtain ⟨k0, k1, k2, k3⟩ := HKP.out _ HK.out; clear hf hown)
          | (go_at_call 24; (with_reducible refine (HOF1.out _ a c (HR0.out.move HK.out)).mono ?_); rintro e W2 ⟨a3, c3, rfl, hown, hf⟩; have HRQ := Lib.hid (HRQ.out.move hf); have HRP := Lib.hid hown; have HK := Lib.hid (HK.out.trans hf); obtain ⟨k0, k1, k2, k3⟩ := HKP.out _ HK.out; clear hf hown)
          | (go_at_call 30; (with_reducible refine (HSAME.out _ _ _ _ _ HRQ.out HRP.out).mono ?_); rintro e W2 ⟨rfl, hf⟩; have HK := Lib.hid (HK.out.trans hf); obtain ⟨k0, k1, k2, k3⟩ := HKP.out _ HK.out; clear hf))
      have HFX := Lib.hid (HF3.out.trans HK.out)
      clear k0 k1 k2 k3 HK HKP HSAME HOF1
      go_wp2_with (fail)
      all_goals try (exfalso; omega)
      refine (HDB.out _).mono ?_
      rintro e w5 ⟨ab, cb, rfl, hrow, hf⟩
      have HF5 := Lib.hid (HFX.out.trans hf)
      have HROW5 := Lib.hid hrow
      clear hrow hf HFX
      dsimp only [st2]
      by_cases hC : C = 0
      case neg =>
        have e0 : (C != 0) = true := by simpa using hC
        obtain ⟨rfl, rfl⟩ := HBAD.out hC
        clear HBAD HGOOD
        have HB5 := Lib.hid (at_new w5 (.cells #[.int .u64 0, .slice ab ([] : List P2).length cb] 49))
        have HF6 := Lib.hid (HF5.out.alloc (.cells #[.int .u64 0, .slice ab ([] : List P2).length cb] 49))
        go_wp2_with (fail)
        refine (HAW.out _).mono ?_
        rintro e w6 ⟨rfl, hf⟩
        obtain ⟨q0, q1, _⟩ := st2_box (hf.at HB5.out)
        have HF7 := Lib.hid (HF6.out.trans hf)
        clear hf
        go_wp2
        go_ret
        exact ⟨rfl, HF7.out⟩
      subst hC
      have HEB := Lib.hid (HGOOD.out rfl)
      clear HBAD HGOOD
      have HB5 := Lib.hid (at_new w5 (.cells #[.int .u64 q, .slice ab L.length cb] 49))
      have HF6 := Lib.hid (HF5.out.alloc (.cells #[.int .u64 q, .slice ab L.length cb] 49))
      have HENC := Lib.hid (HEB.out ab cb _ (HROW5.out.move ((Fresh.refl w5).alloc (.cells #[.int .u64 q, .slice ab L.length cb] 49))))
      clear HEB HROW5 HF5
      go_wp2_with (fail)
      refine HENC.out.mono ?_
      rintro e w6 ⟨rfl, hf⟩
      have HF7 := Lib.hid (HF6.out.trans hf)
      clear hf
      go_wp2_with (fail)
      refine (HAW.out _).mono ?_
      rintro e w7 ⟨rfl, hf⟩
      have HF8 := Lib.hid (HF7.out.trans hf)
      clear hf
      go_wp2
      go_ret
      exact ⟨rfl, HF8.out⟩
end Go.Proofs.Ytphjhlnjfcfdcaa
namespace Go.Proofs.Ytphjhlnjfcfdcaa
open Go.ChangeShapes Go.WideShapes Go.ChangeAt Go.RowKit Go.Deep
set_option maxRecDepth 100000

theorem cells_u16 : Try.prog.cellsOf 95 = 1 := by kernel_rfl
theorem cells_u64 : Try.prog.cellsOf 46 = 1 := by kernel_rfl
theorem cells_cont2 : Try.prog.cellsOf 100 = 2 := by kernel_rfl
theorem cells_scont2 : Try.prog.cellsOf 96 = 1 := by kernel_rfl
theorem cells_pod2 : Try.prog.cellsOf 98 = 6 := by kernel_rfl
theorem cells_spod2 : Try.prog.cellsOf 47 = 1 := by kernel_rfl
theorem cells_state2 : Try.prog.cellsOf 49 = 2 := by kernel_rfl
theorem u16_of {v : Int} (h : (Lit.int .u16 v).wf = true) : 0 ≤ v ∧ v ≤ 65535 := by
  simp [Lit.wf, IntKind.min, IntKind.max, IntKind.signed, IntKind.bits] at h; omega
theorem u64_of {v : Int} (h : (Lit.int .u64 v).wf = true) : 0 ≤ v ∧ v ≤ 18446744073709551615 := by
  simp [Lit.wf, IntKind.min, IntKind.max, IntKind.signed, IntKind.bits] at h; omega
instance : Inhabited C2 := ⟨⟨⟨#[]⟩, ⟨#[]⟩⟩⟩
instance : Inhabited M2 := ⟨⟨⟨⟨#[]⟩, ⟨#[]⟩, ⟨#[]⟩, 0, 0, []⟩, none, 0⟩⟩
/-- What a container's datum says of its size. -/
def ContD {H : Type} (c : C2) (d : DataW H) : Prop :=
  (∀ K, (∀ n, n ∈ d.weights Try.prog 100 → n ≤ K) → c.name.size ≤ K ∧ c.image.size ≤ K) ∧ (∀ K, Rows.uptoBulk d ≤ K → c.name.size ≤ K ∧ c.image.size ≤ K)
theorem open_cont2 {H : Type} {enc : TypeId × Value → H} {W : World} {fuel : Nat} {cs : List Value} {d : DataW H} {pl : List MemPlace} (h : DataW.trod enc Try.prog W 0 (fun _ => true) true fuel 100 cs = some (d, pl)) :
    ∃ c : C2, cs = c.cells ∧ ContD c d := by
  obtain ⟨xs, k, hk, hxy, hlen, hxl, hf⟩ := DataW.trod_struct Try.underlying100 h
  rw [cells_cont2] at hlen
  match xs, hxl, cs, hlen with
  | [y0, y1], _, [v0, v1], _ =>
    have g0 := hf 0 _ rfl
    have g1 := hf 1 _ rfl
    simp [cells_str] at g0 g1
    obtain ⟨k0, e0, f0, _⟩ := DataW.trod_string Try.underlying9 g0
    obtain ⟨k1, e1, f1, _⟩ := DataW.trod_string Try.underlying9 g1
    simp only [List.cons.injEq, and_true] at e0 e1
    subst e0 e1
    simp only [Prod.mk.injEq] at hxy
    refine ⟨⟨k0, k1⟩, rfl, fun K hK => ?_, fun K hK => ?_⟩
    · rw [hxy.1] at hK
      simp only [List.map_cons, List.map_nil, f0, f1] at hK
      have hw : ∀ n ∈ [k0.data.toList.length, k1.data.toList.length], n ≤ K := fun n hn => hK n (by
        simp [DataW.weights, Try.underlying100, DataW.weightsEach]
        simpa using hn)
      exact ⟨by show k0.size ≤ K; rw [Lib.size_eq]; exact hw _ (by simp), by show k1.size ≤ K; rw [Lib.size_eq]; exact hw _ (by simp)⟩
    · rw [hxy.1] at hK
      simp only [List.map_cons, List.map_nil, f0, f1, Rows.uptoBulk, Rows.uptoBulkAll] at hK
      exact ⟨by show k0.size ≤ K; rw [Lib.size_eq]; omega, by show k1.size ≤ K; rw [Lib.size_eq]; omega⟩
/-- What a pod's datum says of it. -/
structure Pod2D {H : Type} (W : World) (m : M2) (d : DataW H) : Prop where
  ins : m.In W
  len : m.p.cs.length ≤ maxLen
  wt : ∀ K, (∀ n, n ∈ d.weights Try.prog 98 → n ≤ K) → m.p.Fit K
  bk : ∀ K, Rows.uptoBulk d ≤ K → m.p.Fit K ∧ m.p.cs.length ≤ K
theorem open_pod2 {H : Type} {enc : TypeId × Value → H} {W : World} {fuel : Nat} {cs : List Value} {d : DataW H} {pl : List MemPlace} (h : DataW.trod enc Try.prog W 0 (fun _ => true) true fuel 98 cs = some (d, pl)) :
    ∃ m : M2, cs = m.cells ∧ Pod2D W m d := by
  obtain ⟨xs, k, hk, hxy, hlen, hxl, hf⟩ := DataW.trod_struct Try.underlying98 h
  rw [cells_pod2] at hlen
  match xs, hxl, cs, hlen with
  | [y0, y1, y2, y3, y4, y5], _, [v0, v1, v2, v3, v4, v5], _ =>
    have g0 := hf 0 _ rfl
    have g1 := hf 1 _ rfl
    have g2 := hf 2 _ rfl
    have g3 := hf 3 _ rfl
    have g4 := hf 4 _ rfl
    have g5 := hf 5 _ rfl
    simp [cells_str, cells_u8, cells_u16, cells_scont2] at g0 g1 g2 g3 g4 g5
    obtain ⟨k0, e0, f0, _⟩ := DataW.trod_string Try.underlying9 g0
    obtain ⟨k1, e1, f1, _⟩ := DataW.trod_string Try.underlying9 g1
    obtain ⟨k2, e2, f2, _⟩ := DataW.trod_string Try.underlying9 g2
    obtain ⟨k3, e3, f3, w3⟩ := DataW.trod_int Try.underlying5 g3
    obtain ⟨k4, e4, f4, w4⟩ := DataW.trod_int Try.underlying95 g4
    obtain ⟨l, a, cap, e5, r5, q5, n5, l5, m5⟩ := open_rows (α := C2) C2.cells (fun p d => ContD p d) (fun _ => rfl) (by decide) Try.underlying96 cells_cont2 (fun n cs' d pl h => open_cont2 h) g5
    simp only [List.cons.injEq, and_true] at e0 e1 e2 e3 e4 e5
    subst e0 e1 e2 e3 e4 e5
    simp only [Prod.mk.injEq] at hxy
    obtain ⟨b0, b1⟩ := u8_of w3
    obtain ⟨b2, b3⟩ := u16_of w4
    refine ⟨⟨⟨k0, k1, k2, k3, k4, l⟩, a, cap⟩, rfl, ⟨r5, l5⟩, m5, fun K hK => ?_, fun K hK => ⟨?_, ?_⟩⟩
    · rw [hxy.1] at hK
      simp only [List.map_cons, List.map_nil, f0, f1, f2, f3, f4] at hK
      have hw : ∀ n ∈ [k0.data.toList.length, k1.data.toList.length, k2.data.toList.length], n ≤ K := fun n hn => hK n (by
        simp [DataW.weights, Try.underlying98, DataW.weightsEach]
        rcases (by simpa using hn : n = _ ∨ n = _ ∨ n = _) with h | h | h
        · exact .inl h
        · exact .inr (.inl h)
        · exact .inr (.inr (.inl h)))
      refine ⟨?_, ?_, ?_, b0, b1, b2, b3, fun c hc => ?_⟩
      · show k0.size ≤ K; rw [Lib.size_eq]; exact hw _ (by simp)
      · show k1.size ≤ K; rw [Lib.size_eq]; exact hw _ (by simp)
      · show k2.size ≤ K; rw [Lib.size_eq]; exact hw _ (by simp)
      · obtain ⟨d', h1, _, h3⟩ := q5 c hc
        refine h1.1 K (fun n hn => hK n ?_)
        simp only [DataW.weights, Try.underlying98]
        simp [DataW.weightsEach]
        exact .inr (.inr (.inr (.inr (.inr (h3 n hn)))))
    · rw [hxy.1] at hK
      simp only [List.map_cons, List.map_nil, f0, f1, f2, f3, f4, Rows.uptoBulk, Rows.uptoBulkAll] at hK
      refine ⟨?_, ?_, ?_, b0, b1, b2, b3, fun c hc => ?_⟩
      · show k0.size ≤ K; rw [Lib.size_eq]; omega
      · show k1.size ≤ K; rw [Lib.size_eq]; omega
      · show k2.size ≤ K; rw [Lib.size_eq]; omega
      · obtain ⟨d', h1, h2, _⟩ := q5 c hc
        exact h1.2 K (by omega)
    · rw [hxy.1] at hK
      simp only [List.map_cons, List.map_nil, f0, f1, f2, f3, f4, Rows.uptoBulk, Rows.uptoBulkAll] at hK
      show l.length ≤ K
      omega
/-- What a state's datum says of it. -/
structure St2D {H : Type} (seq : Int) (l : List M2) (d : DataW H) : Prop where
  s0 : 0 ≤ seq
  s1 : seq ≤ 18446744073709551615
  len : l.length ≤ maxLen
  lens : ∀ m ∈ l, m.p.cs.length ≤ maxLen
  wt : ∀ K, (∀ n, n ∈ d.weights Try.prog 49 → n ≤ K) → ∀ m ∈ l, m.p.Fit K
  bk : ∀ K, Rows.uptoBulk d ≤ K → l.length ≤ K ∧ ∀ m ∈ l, m.p.Fit K ∧ m.p.cs.length ≤ K
theorem open_st2 {H : Type} {enc : TypeId × Value → H} {W : World} {fuel : Nat} {cs : List Value} {d : DataW H} {pl : List MemPlace} (h : DataW.trod enc Try.prog W 0 (fun _ => true) true fuel 49 cs = some (d, pl)) :
    ∃ (seq : Int) (l : List M2) (a : Option Addr) (c : Nat), cs = [.int .u64 seq, .slice a l.length c] ∧ Row2 W a l ∧ St2D seq l d := by
  obtain ⟨xs, k, hk, hxy, hlen, hxl, hf⟩ := DataW.trod_struct Try.underlying49 h
  rw [cells_state2] at hlen
  match xs, hxl, cs, hlen with
  | [y0, y1], _, [v0, v1], _ =>
    have g0 := hf 0 _ rfl
    have g1 := hf 1 _ rfl
    simp [cells_u64, cells_spod2] at g0 g1
    obtain ⟨k0, e0, f0, w0⟩ := DataW.trod_int Try.underlying46 g0
    obtain ⟨l, a, cap, e1, r1, b1, n1, l1, m1⟩ := open_rows (α := M2) M2.cells (fun p d => Pod2D W p d) (fun _ => rfl) (by decide) Try.underlying47 cells_pod2 (fun n cs' d pl h => open_pod2 h) g1
    simp only [List.cons.injEq, and_true] at e0 e1
    subst e0 e1
    simp only [Prod.mk.injEq] at hxy
    obtain ⟨b0, b00⟩ := u64_of w0
    refine ⟨k0, l, a, cap, rfl, ⟨r1, fun m hm => ?_⟩, b0, b00, m1, fun m hm => ?_, fun K hK p hp => ?_, fun K hK => ⟨?_, fun p hp => ?_⟩⟩
    · obtain ⟨d', h1, _⟩ := b1 m hm
      exact h1.ins
    · obtain ⟨d', h1, _⟩ := b1 m hm
      exact h1.len
    · rw [hxy.1] at hK
      simp only [List.map_cons, List.map_nil] at hK
      obtain ⟨d', h1, _, h3⟩ := b1 p hp
      refine h1.wt K (fun n hn => hK n ?_)
      simp only [DataW.weights, Try.underlying49]
      simp [DataW.weightsEach]
      exact .inr (h3 n hn)
    · rw [hxy.1] at hK
      simp only [List.map_cons, List.map_nil, Rows.uptoBulk, Rows.uptoBulkAll] at hK
      omega
    · rw [hxy.1] at hK
      simp only [List.map_cons, List.map_nil, Rows.uptoBulk, Rows.uptoBulkAll] at hK
      obtain ⟨d', h1, h2, _⟩ := b1 p hp
      exact h1.bk K (by omega)
/-- A state among the arguments. -/
theorem arg_st2 {H : Type} {enc : TypeId × Value → H} {W : World} {base : Nat} {v : Value} {d : DataW H} {p : List MemPlace} (ho : Value.okWide Try.prog W .any base 49 v) (h : DataW.Trod enc Try.prog W 0 (fun _ => true) true 49 v d p) :
    ∃ (seq : Int) (l : List M2) (a : Option Addr) (c : Nat), v = st2 seq a l.length c ∧ Row2 W a l ∧ St2D seq l d := by
  obtain ⟨cs, rfl, hs⟩ := okWide_struct Try.underlying49 ho
  obtain ⟨f, g⟩ := h
  obtain ⟨seq, l, a, c, h1, h2, h3⟩ := open_st2 g
  refine ⟨seq, l, a, c, ?_, h2, h3⟩
  have : cs = #[.int .u64 seq, .slice a l.length c] := Array.toList_inj.1 h1
  rw [this]; rfl
end Go.Proofs.Ytphjhlnjfcfdcaa
namespace Go.Proofs.Ytphjhlnjfcfdcaa.cktwoBack
open Go.ChangeShapes Go.WideShapes Go.ChangeAt Go.RowKit
open Go.ChangeMaps (open_string shut_string)
set_option linter.unusedVariables false

/-! ### From the walk to the row -/
set_option maxRecDepth 100000 in
theorem lifted (os : Os) (started : os.Started) (H : Type) (enc : TypeId × Value → H) :
    ReturnsInHanded {} Try.checked os 8 .any (Rows.cktwoBackSpec.pre6 enc Try.prog Try.f8 Rows.cktwoBackRow.domain false) (Rows.cktwoBackSpec.post enc Try.prog Try.f8 false true false false) := by
  refine returnsInHanded_of_change_sized (C := Try.checked) own_knob started (by kernel_rfl) Try.func8
    (ChangeSpec.witness6 (enc := enc) (C := Try.checked) false ⟨#[], #[.agg #[.int .u64 0, .slice none 0 0], .string ByteArray.empty], []⟩ 8 (by kernel_rfl) (by kernel_rfl) (by kernel_rfl) (by kernel_rfl)) ?_
  intro W base args ds gs before hval0 hW hcnd hsz _
  have hval : ∀ (j : Nat) t v, Try.f8.params[j]? = some t → args[j]? = some v → Value.okWide Try.prog W .any base t v := hval0
  have hW' := hW
  obtain ⟨p, q, hA0, hV, rfl, hfz, hnd⟩ := hW
  have hA : DataW.TrodAll enc Try.prog W 0 (fun _ => true) true Try.f8.params.toList args.toList ds p := hA0
  rw [Try.params8] at hA hval
  obtain ⟨v0, vs0, d0, ds0, p0, q0, hargs, rfl, rfl, h0, r0⟩ := trodAll_cons hA
  obtain ⟨v1, vs1, d1, ds1, p1, q1, rfl, rfl, rfl, h1, r1⟩ := trodAll_cons r0
  obtain ⟨rfl, rfl, rfl⟩ := trodAll_nil r1
  obtain rfl : args = #[v0, v1] := by cases args; simp_all
  obtain ⟨rfl, rfl⟩ := trodVars_none hV
  obtain ⟨seq, l, a, c, e0, a0, l0⟩ := arg_st2 (hval 0 49 v0 rfl rfl) h0
  obtain ⟨s1, rfl, rfl, rfl, w1⟩ := open_string Try.underlying9 (hval 1 9 v1 rfl rfl) h1
  have lt0 := trod_low h0
  have hfit : ∀ p ∈ pods2 l, p.Fit 140737488355328 := fun p hp => by
    obtain ⟨m, hm, rfl⟩ := List.mem_map.1 hp
    exact (l0.wt 140737488351232 (fun n hn => sized_mem hsz (j := 0) rfl rfl hn) m hm).mono (by omega)
  have hcl : ∀ p ∈ pods2 l, p.cs.length ≤ maxLen := fun p hp => by
    obtain ⟨m, hm, rfl⟩ := List.mem_map.1 hp
    exact l0.lens m hm
  have hlen : (pods2 l).length ≤ maxLen := by rw [pods2_length]; exact l0.len
  subst e0
  clear hA0 hval0
  have hback := back2_any seq a (pods2 l) c s1 W ⟨l, rfl, a0⟩ hfit hlen hcl l0.s0 l0.s1 w1
  rw [pods2_length] at hback
  refine hback.mono fun e W' ⟨he, hg⟩ => ?_
  subst he
  exact ⟨_, rfl, _, _, _, [], _, [], hW', trodAll_mk1 (shut_bool Try.underlying4 _), (trodAll_cons_mk (Below.trod laidOut (by kernel_rfl) (of_decide_eq_true (by kernel_rfl)) h0 hg lt0) (trodAll_cons_mk (shut_string Try.underlying9 w1) trodAll_mk0)), rfl, Below.frame hg _, fun h => by cases h⟩

theorem cktwoBack_holds : Rows.CktwoBackSaid :=
  OpenClaim.holds_of_wide 8 Try.f8 rfl rfl rfl rfl rfl rfl rfl ⟨rfl, rfl, rfl, rfl, rfl⟩ rfl rfl rfl rfl rfl (by kernel_rfl) Try.func8 (by kernel_rfl)
    (of_decide_eq_true (by kernel_rfl)) (by unfold Func.isWrapper; first | (rw [if_pos (by decide +kernel)]; kernel_rfl) | (rw [if_neg (by decide +kernel)]; exact ⟨rfl, rfl⟩))
    (fun os started H enc _ => lifted os started H enc)
#print axioms cktwoBack_holds
end Go.Proofs.Ytphjhlnjfcfdcaa.cktwoBack
