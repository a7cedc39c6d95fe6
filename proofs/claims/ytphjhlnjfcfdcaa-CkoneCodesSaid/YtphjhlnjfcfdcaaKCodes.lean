/-
  bosunlaw17.CkoneCodes, walked (printed by gencodes1.py.txt).
-/
import Derived.Test.YtphjhlnjfcfdcaaKReg1
import Derived.Test.YtphjhlnjfcfdcaaKReads
import Derived.Test.YtphjhlnjfcfdcaaKRbytes
namespace Go.Proofs.Ytphjhlnjfcfdcaa
open Go.ChangeShapes Go.WideShapes Go.ChangeAt Go.RowKit
set_option maxRecDepth 100000

/-- What the region leaves, as puts. -/
theorem Res1.act {A0 : Act} {w0 : World} {p q : SM1} {b c : Nat} {a : Act} {W : World} {m n : SM1} {zx zy : Nat} (h : Res1 A0 w0 p q b c a W m n zx zy) (hs : A0.tmps.size = 86) (hd : A0.defers = []) :
    a = (((((A0.put (some 26) p.val).put (some 27) m.val).put (some 28) q.val).put (some 29) n.val).put (some 7) (.pointer (some ⟨zx, 0, none⟩))).put (some 8) (.pointer (some ⟨zy, 0, none⟩)) := by
  refine act_ext (by rw [h.fs]; simp only [put_size]; exact hs.symm) (by rw [h.fd]; simp only [put_defers]; exact hd.symm) (fun t => ?_)
  by_cases e5 : t = 8
  · subst e5; rw [h.eb1, ev_same (by simp only [put_size]; omega)]
  rw [ev_ne (fun e => e5 e.symm)]
  by_cases e4 : t = 7
  · subst e4; rw [h.eb0, ev_same (by simp only [put_size]; omega)]
  rw [ev_ne (fun e => e4 e.symm)]
  by_cases e3 : t = 29
  · subst e3; rw [h.es3, ev_same (by simp only [put_size]; omega)]
  rw [ev_ne (fun e => e3 e.symm)]
  by_cases e2 : t = 28
  · subst e2; rw [h.es2, ev_same (by simp only [put_size]; omega)]
  rw [ev_ne (fun e => e2 e.symm)]
  by_cases e1 : t = 27
  · subst e1; rw [h.es1, ev_same (by simp only [put_size]; omega)]
  rw [ev_ne (fun e => e1 e.symm)]
  by_cases e0 : t = 26
  · subst e0; rw [h.es0, ev_same (by omega)]
  rw [ev_ne (fun e => e0 e.symm)]
  exact h.sm t e0 e1 e2 e3 e4 e5
set_option maxHeartbeats 3000000 in
theorem codes_any (p q : SM1) (name : ByteArray) (w : World) (hp : RowAt w p.a (p1s p.l)) (hq : RowAt w q.a (p1s q.l)) (hfp : ∀ x ∈ p.l, x.Fit 140737488355328) (hfq : ∀ x ∈ q.l, x.Fit 140737488355328) (hlp : p.l.length ≤ maxLen) (hlq : q.l.length ≤ maxLen) (hs0 : 0 ≤ p.seq) (hs1 : p.seq ≤ 4294967295) (hnm : name.size ≤ maxLen) :
    Calls Try.prog 3 #[p.val, q.val, .string name] w fun e w' => e = .returned (.bool true) ∧ Fresh w w' := by
  have HAW := Lib.hid (fun W => awake17_any W)
  have HX := Lib.hid (two_boxes w (p.obj 25) (q.obj 25))
  have HF0 := Lib.hid HX.out.2.2.1
  have HP := Lib.hid hp
  have HQ := Lib.hid hq
  have HSM : Hid (∀ W, Fresh w W → Calls Try.prog 9 #[p.val] W fun e w' => e = .returned (.bool (smA 0 p.l)) ∧ Fresh W w') := fun W f => small1_any p.seq p.a p.l p.c W (hp.move f) hfp hlp
  have HSM' : Hid (∀ W, Fresh w W → Calls Try.prog 9 #[q.val] W fun e w' => e = .returned (.bool (smA 0 q.l)) ∧ Fresh W w') := fun W f => small1_any q.seq q.a q.l q.c W (hq.move f) hfq hlq
  have hp2 : smA 0 p.l = true → p.l.length ≤ 20000 ∧ ∀ x ∈ p.l, x.Fit 20000 := fun h => by
    obtain ⟨h1, h2⟩ := smA_fit p.l 0 h (by omega)
    exact ⟨h1, fun x hx => ⟨(h2 x hx).1, (h2 x hx).2.1, (h2 x hx).2.2, (hfp x hx).r0, (hfp x hx).r1⟩⟩
  have hq2 : smA 0 q.l = true → q.l.length ≤ 20000 ∧ ∀ x ∈ q.l, x.Fit 20000 := fun h => by
    obtain ⟨h1, h2⟩ := smA_fit q.l 0 h (by omega)
    exact ⟨h1, fun x hx => ⟨(h2 x hx).1, (h2 x hx).2.1, (h2 x hx).2.2, (hfq x hx).r0, (hfq x hx).r1⟩⟩
  unfold maxLen at hnm
  clear hp hq hfp hfq hlp hlq
  cases hsp : smA 0 p.l with
  | false =>
    rw [hsp] at HSM
    clear hsp hp2 hq2 HSM'
    obtain ⟨s, a, l, c⟩ := p
    obtain ⟨s', a', l', c'⟩ := q
    dsimp only [SM1.val, SM1.obj] at *
    go_enter Try.func3, Try.ntmps3
    go_wp2_with (fail)
    refine (HSM.out _ HF0.out).mono ?_
    rintro e w1 ⟨rfl, hf⟩
    have HF1 := Lib.hid (HF0.out.trans hf)
    clear hf
    go_wp2_with (fail)
    refine (HAW.out _).mono ?_
    rintro e w2 ⟨rfl, hf⟩
    have HF2 := Lib.hid (HF1.out.trans hf)
    clear hf
    go_wp2
    go_ret
    exact ⟨rfl, HF2.out⟩
  | true =>
    rw [hsp] at HSM
    obtain ⟨hpl, hpf⟩ := hp2 hsp
    cases hsq : smA 0 q.l with
    | false =>
      rw [hsq] at HSM'
      clear hsp hsq hp2 hq2
      obtain ⟨s, a, l, c⟩ := p
      obtain ⟨s', a', l', c'⟩ := q
      dsimp only [SM1.val, SM1.obj] at *
      go_enter Try.func3, Try.ntmps3
      go_wp2_with (fail)
      refine (HSM.out _ HF0.out).mono ?_
      rintro e w1 ⟨rfl, hf⟩
      obtain ⟨q0, q1, _⟩ := st1_box (hf.at HX.out.2.1)
      have HF1 := Lib.hid (HF0.out.trans hf)
      clear hf
      go_wp2_with (fail)
      refine (HSM'.out _ HF1.out).mono ?_
      rintro e w2 ⟨rfl, hf⟩
      have HF2 := Lib.hid (HF1.out.trans hf)
      clear hf q0 q1
      go_wp2_with (fail)
      refine (HAW.out _).mono ?_
      rintro e w3 ⟨rfl, hf⟩
      have HF3 := Lib.hid (HF2.out.trans hf)
      clear hf
      go_wp2
      go_ret
      exact ⟨rfl, HF3.out⟩
    | true =>
      rw [hsq] at HSM'
      obtain ⟨hql, hqf⟩ := hq2 hsq
      clear hsp hsq hp2 hq2
      by_cases hbig : 200 < name.size
      · obtain ⟨s, a, l, c⟩ := p
        obtain ⟨s', a', l', c'⟩ := q
        dsimp only [SM1.val, SM1.obj] at *
        go_enter Try.func3, Try.ntmps3
        go_wp2_with (fail)
        refine (HSM.out _ HF0.out).mono ?_
        rintro e w1 ⟨rfl, hf⟩
        obtain ⟨q0, q1, _⟩ := st1_box (hf.at HX.out.2.1)
        have HF1 := Lib.hid (HF0.out.trans hf)
        clear hf
        go_wp2_with (fail)
        refine (HSM'.out _ HF1.out).mono ?_
        rintro e w2 ⟨rfl, hf⟩
        have HF2 := Lib.hid (HF1.out.trans hf)
        clear hf q0 q1
        go_wp2_with (fail)
        all_goals try (exfalso; omega)
        refine (HAW.out _).mono ?_
        rintro e w3 ⟨rfl, hf⟩
        have HF3 := Lib.hid (HF2.out.trans hf)
        clear hf
        go_wp2
        go_ret
        exact ⟨rfl, HF3.out⟩
      have hns : name.size ≤ 200 := by omega
      clear hbig hnm
      have HPF := Lib.hid hpf
      have HQF := Lib.hid hqf
      clear hpf hqf
      have HSP : Hid (∀ (m : SM1) W, m.seq = p.seq ∧ m.l = p.l → RowAt W m.a (p1s m.l) → Calls Try.prog 12 #[m.val] W fun e w' => e = .returned (.int .i64 (chk1 p.l)) ∧ Fresh W w') := fun m W h hr => by
        have := rcheck_any m.seq m.a m.l m.c W hr (by rw [h.2]; exact HPF.out) (by rw [h.2]; omega)
        rw [h.2] at this
        have e : m.val = st1 m.seq m.a p.l.length m.c := by unfold SM1.val st1; rw [h.2]
        rw [e]; exact this
      have HCK : Hid (∀ W, Fresh w W → Calls Try.prog 14 #[p.val] W fun e w' => e = .returned (.int .i64 (chk1 p.l)) ∧ Fresh W w') := fun W f => check_any p.seq p.a p.l p.c W (HP.out.move f) (fun x hx => (HPF.out x hx).mono (by unfold maxLen; omega))
      have HBY : Hid (chk1 p.l = 0 → ∀ (m : SM1) W, m.seq = p.seq ∧ m.l = p.l → RowAt W m.a (p1s m.l) → Calls Try.prog 15 #[m.val] W fun e w' => e = .returned (.string (tx (enc1L p.seq p.l))) ∧ Fresh W w') := fun h0 m W h hr => by
        obtain ⟨h1, h2⟩ := chk_fit h0 (fun x hx => ⟨(HPF.out x hx).r0, (HPF.out x hx).r1⟩)
        have := rbytes_any m.seq m.a m.l m.c W hr (by rw [h.2]; exact h2) (by rw [h.2]; exact h1) (by rw [h.1]; exact hs0) (by rw [h.1]; exact hs1)
        rw [h.1, h.2] at this
        have e : m.val = st1 p.seq m.a p.l.length m.c := by unfold SM1.val st1; rw [h.1, h.2]
        rw [e]; exact this
      have HEO : Hid (chk1 p.l = 0 → ∀ W, Fresh w W → Calls Try.prog 13 #[p.val] W fun e w' => e = .returned (.tuple #[.string (tx (enc1L p.seq p.l)), .int .i64 0]) ∧ Fresh W w') := fun h0 W f => encode_ok p.seq p.a p.l p.c W (HP.out.move f) (fun x hx => (HPF.out x hx).mono (by unfold maxLen; omega)) h0 hs0 hs1
      have HEB : Hid (chk1 p.l ≠ 0 → ∀ W, Fresh w W → Calls Try.prog 13 #[p.val] W fun e w' => e = .returned (.tuple #[.string ⟨#[]⟩, .int .i64 (chk1 p.l)]) ∧ Fresh W w') := fun h0 W f => encode_bad p.seq p.a p.l p.c W (HP.out.move f) (fun x hx => (HPF.out x hx).mono (by unfold maxLen; omega)) h0
      have HSS : Hid (∀ W, Fresh w W → Calls Try.prog 16 #[p.val, q.val] W fun e w' => e = .returned (.bool (same1 p.seq q.seq p.l q.l)) ∧ Fresh W w') := fun W f => same_any p.seq q.seq p.l q.l p.a q.a p.c q.c W (HP.out.move f) (HQ.out.move f) (by omega)
      have HS1 : Hid (∀ W, Fresh w W → Calls Try.prog 16 #[p.val, p.val] W fun e w' => e = .returned (.bool true) ∧ Fresh W w') := fun W f => by
        have := same_any p.seq p.seq p.l p.l p.a p.a p.c p.c W (HP.out.move f) (HP.out.move f) (by omega)
        rw [same1_self] at this
        exact this
      have HRS : Hid (∀ (m n : SM1) W, m.seq = p.seq ∧ m.l = p.l → n.seq = q.seq ∧ n.l = q.l → RowAt W m.a (p1s m.l) → RowAt W n.a (p1s n.l) → Calls Try.prog 17 #[m.val, n.val] W fun e w' => e = .returned (.bool (same1 p.seq q.seq p.l q.l)) ∧ Fresh W w') := fun m n W h h' hr hr' => by
        have := rsame_any m.seq n.seq m.l n.l m.a n.a m.c n.c W hr hr' (by rw [h.2]; omega)
        rw [show same1 m.seq n.seq m.l n.l = same1 p.seq q.seq p.l q.l from by rw [h.1, h.2, h'.1, h'.2]] at this
        exact this
      have HFN := Lib.hid (fun W => file_any name W (by unfold maxLen; omega))
      have HRN := Lib.hid (fun W => rfile_any name W (by unfold maxLen; omega))
      have HPA : Hid (p.At w) := ⟨HP.out, by omega⟩
      have HQA : Hid (q.At w) := ⟨HQ.out, by omega⟩
      generalize same1 p.seq q.seq p.l q.l = SB at *
      generalize fileB name = FB at *
      generalize tx (enc1L p.seq p.l) = X at *
      generalize chk1 p.l = K at *
      have hobj1 := HX.out.1
      have hobj2 := HX.out.2.1
      generalize hpv : p.val = pv at *
      generalize hqv : q.val = qv at *
      have hpv' : pv = .agg #[.int .u32 p.seq, .slice p.a p.l.length p.c] := hpv.symm
      have hqv' : qv = .agg #[.int .u32 q.seq, .slice q.a q.l.length q.c] := hqv.symm
      have HPV := Lib.hid hpv
      have HQV := Lib.hid hqv
      clear hpv hqv
      subst hpv' hqv'
      have X1 : Hid (((w.alloc (.cells #[.int .u32 p.seq, .slice p.a p.l.length p.c] 25)).alloc (.cells #[.int .u32 q.seq, .slice q.a q.l.length q.c] 25)).heap[w.heap.size]? = some (p.obj 25)) := hobj1
      have X2 : Hid (((w.alloc (.cells #[.int .u32 p.seq, .slice p.a p.l.length p.c] 25)).alloc (.cells #[.int .u32 q.seq, .slice q.a q.l.length q.c] 25)).heap[w.heap.size + 1]? = some (q.obj 25)) := hobj2
      have HF0 : Hid (Fresh w ((w.alloc (.cells #[.int .u32 p.seq, .slice p.a p.l.length p.c] 25)).alloc (.cells #[.int .u32 q.seq, .slice q.a q.l.length q.c] 25))) := HF0.out
      have HSZ : Hid (((w.alloc (.cells #[.int .u32 p.seq, .slice p.a p.l.length p.c] 25)).alloc (.cells #[.int .u32 q.seq, .slice q.a q.l.length q.c] 25)).heap.size = w.heap.size + 2) := HX.out.2.2.2
      clear HX hobj1 hobj2
      go_enter Try.func3, Try.ntmps3
      go_wp2_with (fail)
      generalize (w.alloc (.cells #[.int .u32 p.seq, .slice p.a p.l.length p.c] 25)).alloc (.cells #[.int .u32 q.seq, .slice q.a q.l.length q.c] 25) = W0 at *
      obtain ⟨b, hb⟩ : ∃ b, b = w.heap.size := ⟨_, rfl⟩
      have HBW := Lib.hid hb
      rw [← hb] at X1 X2 HSZ ⊢
      clear hb
      refine (HSM.out _ HF0.out).mono ?_
      rintro e w1 ⟨rfl, hf⟩
      have HF1 := Lib.hid hf
      obtain ⟨q0, q1, _⟩ := st1_box (hf.at X2.out)
      clear hf
      go_wp2_with (fail)
      refine (HSM'.out _ (HF0.out.trans HF1.out)).mono ?_
      rintro e w2 ⟨rfl, hf⟩
      have HF2 := Lib.hid (HF1.out.trans hf)
      clear hf q0 q1 HF1
      go_wp2_with (fail)
      all_goals try (exfalso; omega)
      rename_i KK hKK
      refine wp_region_any rfl ?_
      refine region1 (w0 := W0) (p := p) (q := q) (b := b) (c := b + 1) ⟨HPA.out.1.move HF0.out, HPA.out.2⟩ ⟨HQA.out.1.move HF0.out, HQA.out.2⟩ rfl rfl rfl rfl (HF2.out.at X1.out) (HF2.out.at X2.out) HF2.out.drew (by rw [HSZ.out]; omega) (by rw [HSZ.out]; omega) ?_
      intro a5 W5 m n zx zy hres
      refine hKK a5 W5 ?_
      have hact := hres.act rfl rfl
      have HM := Lib.hid hres.mp
      have HN := Lib.hid hres.nq
      have HMR : Hid (RowAt W5 m.a (p1s m.l)) := RowAt.owns hres.om.choose_spec
      have HNR : Hid (RowAt W5 n.a (p1s n.l)) := RowAt.owns hres.on.choose_spec
      have G1 := Lib.hid hres.g1
      have G2 := Lib.hid hres.g2
      have G3 := Lib.hid hres.g3
      have G4 := Lib.hid hres.g4
      have HF5 := Lib.hid (HF0.out.trans hres.fr)
      clear hres hKK X1 X2 HPA HQA HF2 HSM HSM'
      subst hact
      simp only [Act.put, List.setIfInBounds_toArray, List.set_cons_zero, List.set_cons_succ]
      have HKP : Hid (∀ W, Fresh W5 W → (W.cell? ⟨b, 0, none⟩ = some (.int .u32 p.seq) ∧ W.cell? ⟨b, 1, none⟩ = some (.slice p.a p.l.length p.c) ∧ W.cell? ⟨b + 1, 0, none⟩ = some (.int .u32 q.seq) ∧ W.cell? ⟨b + 1, 1, none⟩ = some (.slice q.a q.l.length q.c)) ∧ W.cell? ⟨zx, 0, none⟩ = some (.int .u32 m.seq) ∧ W.cell? ⟨zx, 1, none⟩ = some (.slice m.a m.l.length m.c) ∧ W.cell? ⟨zy, 0, none⟩ = some (.int .u32 n.seq) ∧ W.cell? ⟨zy, 1, none⟩ = some (.slice n.a n.l.length n.c)) := fun W f =>
        ⟨⟨(st1_box (f.at G1.out)).1, (st1_box (f.at G1.out)).2.1, (st1_box (f.at G2.out)).1, (st1_box (f.at G2.out)).2.1⟩, (st1_box (f.at G3.out)).1, (st1_box (f.at G3.out)).2.1, (st1_box (f.at G4.out)).1, (st1_box (f.at G4.out)).2.1⟩
      clear G1 G2 G3 G4
      have HVM : Hid (m.val = .agg #[.int .u32 m.seq, .slice m.a m.l.length m.c]) := rfl
      have HVN : Hid (n.val = .agg #[.int .u32 n.seq, .slice n.a n.l.length n.c]) := rfl
      have HSP := Lib.hid (fun W (f : Fresh W5 W) => HSP.out m W HM.out (HMR.out.move f))
      have HBY := Lib.hid (fun h W (f : Fresh W5 W) => HBY.out h m W HM.out (HMR.out.move f))
      have HRS := Lib.hid (fun W (f : Fresh W5 W) => HRS.out m n W HM.out HN.out (HMR.out.move f) (HNR.out.move f))
      rw [HVM.out] at HSP HBY
      rw [HVM.out, HVN.out] at HRS
      clear HM HN HMR HNR HVM HVN
      obtain ⟨⟨k0, k1, k2, k3⟩, k4, k5, k6, k7⟩ := HKP.out W5 (.refl _)
      have HK := Lib.hid (Fresh.refl W5)
      have HCK := Lib.hid (fun W (f : Fresh W5 W) => HCK.out W (HF5.out.trans f))
      have HSS := Lib.hid (fun W (f : Fresh W5 W) => HSS.out W (HF5.out.trans f))
      have HS1 := Lib.hid (fun W (f : Fresh W5 W) => HS1.out W (HF5.out.trans f))
      have HEO := Lib.hid (fun h W (f : Fresh W5 W) => HEO.out h W (HF5.out.trans f))
      have HEB := Lib.hid (fun h W (f : Fresh W5 W) => HEB.out h W (HF5.out.trans f))
      generalize m.l.length = ml at *
      generalize n.l.length = nl at *
      generalize p.l.length = pl at *
      generalize q.l.length = ql at *
      go_wp2_with (fail)
      refine (HSP.out _ HK.out).mono ?_
      rintro e w6 ⟨rfl, hf⟩
      have HK := Lib.hid (HK.out.trans hf)
      obtain ⟨⟨k0, k1, k2, k3⟩, k4, k5, k6, k7⟩ := HKP.out _ HK.out
      clear hf
      by_cases hK0 : K = 0
      case pos =>
        have HEO2 := Lib.hid (HEO.out hK0)
        have HBY2 := Lib.hid (HBY.out hK0)
        clear HEB HEO HBY
        subst hK0
        go_wp2_with (fail)
        refine (HEO2.out _ HK.out).mono ?_
        rintro e w7 ⟨rfl, hf⟩
        have HK := Lib.hid (HK.out.trans hf)
        obtain ⟨⟨k0, k1, k2, k3⟩, k4, k5, k6, k7⟩ := HKP.out _ HK.out
        clear hf
        go_wp2_with (fail)
        refine (HCK.out _ HK.out).mono ?_
        rintro e w8 ⟨rfl, hf⟩
        have HK := Lib.hid (HK.out.trans hf)
        obtain ⟨⟨k0, k1, k2, k3⟩, k4, k5, k6, k7⟩ := HKP.out _ HK.out
        clear hf
        go_wp2_with (fail)
        refine (HBY2.out _ HK.out).mono ?_
        rintro e w9 ⟨rfl, hf⟩
        have HK := Lib.hid (HK.out.trans hf)
        obtain ⟨⟨k0, k1, k2, k3⟩, k4, k5, k6, k7⟩ := HKP.out _ HK.out
        clear hf
        go_wp2_with (fail)
        have HK := Lib.hid HK.out.drew
        go_region_held3 (fun w' => ((w'.cell? ⟨b, 0, none⟩ = some (.int .u32 p.seq) ∧ w'.cell? ⟨b, 1, none⟩ = some (.slice p.a pl p.c) ∧ w'.cell? ⟨b + 1, 0, none⟩ = some (.int .u32 q.seq) ∧ w'.cell? ⟨b + 1, 1, none⟩ = some (.slice q.a ql q.c)) ∧ w'.cell? ⟨zx, 0, none⟩ = some (.int .u32 m.seq) ∧ w'.cell? ⟨zx, 1, none⟩ = some (.slice m.a ml m.c) ∧ w'.cell? ⟨zy, 0, none⟩ = some (.int .u32 n.seq) ∧ w'.cell? ⟨zy, 1, none⟩ = some (.slice n.a nl n.c))) (go_keep)
          (first
            | (go_at_call 10; (with_reducible refine (HAW.out _).mono ?_); rintro e W2 ⟨rfl, hf⟩; have HK := Lib.hid (HK.out.trans hf); obtain ⟨⟨k0, k1, k2, k3⟩, k4, k5, k6, k7⟩ := HKP.out _ HK.out; clear hf)
            | (go_at_call 16; (with_reducible refine (HSS.out _ HK.out).mono ?_); rintro e W2 ⟨rfl, hf⟩; have HK := Lib.hid (HK.out.trans hf); obtain ⟨⟨k0, k1, k2, k3⟩, k4, k5, k6, k7⟩ := HKP.out _ HK.out; clear hf)
            | (go_at_call 17; (with_reducible refine (HRS.out _ HK.out).mono ?_); rintro e W2 ⟨rfl, hf⟩; have HK := Lib.hid (HK.out.trans hf); obtain ⟨⟨k0, k1, k2, k3⟩, k4, k5, k6, k7⟩ := HKP.out _ HK.out; clear hf)
            | (go_at_call 16; (with_reducible refine (HS1.out _ HK.out).mono ?_); rintro e W2 ⟨rfl, hf⟩; have HK := Lib.hid (HK.out.trans hf); obtain ⟨⟨k0, k1, k2, k3⟩, k4, k5, k6, k7⟩ := HKP.out _ HK.out; clear hf)
            | (go_at_call 18; (with_reducible refine (HFN.out _).mono ?_); rintro e W2 ⟨rfl, rfl⟩)
            | (go_at_call 19; (with_reducible refine (HRN.out _).mono ?_); rintro e W2 ⟨rfl, rfl⟩))
        all_goals go_wp2
        all_goals go_ret
        all_goals exact ⟨rfl, HF5.out.trans HK.out⟩
      case neg =>
        have HEB2 := Lib.hid (HEB.out hK0)
        have e0 : (K == 0) = false := by rw [beq_eq_false_iff_ne]; exact hK0
        have e1 : (K != 0) = true := by simpa using hK0
        clear HEO HBY HEB hK0
        go_wp2_with (fail)
        refine (HEB2.out _ HK.out).mono ?_
        rintro e w7 ⟨rfl, hf⟩
        have HK := Lib.hid (HK.out.trans hf)
        obtain ⟨⟨k0, k1, k2, k3⟩, k4, k5, k6, k7⟩ := HKP.out _ HK.out
        clear hf
        go_wp2_with (fail)
        refine (HCK.out _ HK.out).mono ?_
        rintro e w8 ⟨rfl, hf⟩
        have HK := Lib.hid (HK.out.trans hf)
        obtain ⟨⟨k0, k1, k2, k3⟩, k4, k5, k6, k7⟩ := HKP.out _ HK.out
        clear hf
        go_wp2_with (fail)
        have HK := Lib.hid HK.out.drew
        go_region_held3 (fun w' => ((w'.cell? ⟨b, 0, none⟩ = some (.int .u32 p.seq) ∧ w'.cell? ⟨b, 1, none⟩ = some (.slice p.a pl p.c) ∧ w'.cell? ⟨b + 1, 0, none⟩ = some (.int .u32 q.seq) ∧ w'.cell? ⟨b + 1, 1, none⟩ = some (.slice q.a ql q.c)) ∧ w'.cell? ⟨zx, 0, none⟩ = some (.int .u32 m.seq) ∧ w'.cell? ⟨zx, 1, none⟩ = some (.slice m.a ml m.c) ∧ w'.cell? ⟨zy, 0, none⟩ = some (.int .u32 n.seq) ∧ w'.cell? ⟨zy, 1, none⟩ = some (.slice n.a nl n.c))) (go_keep)
          (first
            | (go_at_call 10; (with_reducible refine (HAW.out _).mono ?_); rintro e W2 ⟨rfl, hf⟩; have HK := Lib.hid (HK.out.trans hf); obtain ⟨⟨k0, k1, k2, k3⟩, k4, k5, k6, k7⟩ := HKP.out _ HK.out; clear hf)
            | (go_at_call 16; (with_reducible refine (HSS.out _ HK.out).mono ?_); rintro e W2 ⟨rfl, hf⟩; have HK := Lib.hid (HK.out.trans hf); obtain ⟨⟨k0, k1, k2, k3⟩, k4, k5, k6, k7⟩ := HKP.out _ HK.out; clear hf)
            | (go_at_call 17; (with_reducible refine (HRS.out _ HK.out).mono ?_); rintro e W2 ⟨rfl, hf⟩; have HK := Lib.hid (HK.out.trans hf); obtain ⟨⟨k0, k1, k2, k3⟩, k4, k5, k6, k7⟩ := HKP.out _ HK.out; clear hf)
            | (go_at_call 16; (with_reducible refine (HS1.out _ HK.out).mono ?_); rintro e W2 ⟨rfl, hf⟩; have HK := Lib.hid (HK.out.trans hf); obtain ⟨⟨k0, k1, k2, k3⟩, k4, k5, k6, k7⟩ := HKP.out _ HK.out; clear hf)
            | (go_at_call 18; (with_reducible refine (HFN.out _).mono ?_); rintro e W2 ⟨rfl, rfl⟩)
            | (go_at_call 19; (with_reducible refine (HRN.out _).mono ?_); rintro e W2 ⟨rfl, rfl⟩))
        all_goals go_wp2
        all_goals go_ret
        all_goals exact ⟨rfl, HF5.out.trans HK.out⟩
end Go.Proofs.Ytphjhlnjfcfdcaa
