/-
  bosunlaw19.CkthreeCodes, walked (printed by gencodes3.py.txt).
  From the walk of CkthreeCodes to its row and card: what Bytes answers stands here as a hypothesis.
  What the document's bytes are laid of: helpers.
-/
import Derived.Test.YtldncgelghcjeaaGreatDoorCat29
import Derived.Test.YtldncgelghcjeaaGreatDoorCat01
import Derived.Test.YtldncgelghcjeaaGreatDoorCat27
import Derived.Test.YtldncgelghcjeaaGreatDoorCat06
import Derived.Test.YtldncgelghcjeaaGreatDoorCat28
import Derived.Test.YtldncgelghcjeaaGreatDoorCat03
import Derived.Test.YtldncgelghcjeaaGreatDoorCat22
import Derived.Deep.RegionHeld3
set_option linter.unusedSimpArgs false
set_option linter.unusedVariables false
namespace Go.Proofs.YtldncgelghcjeaaGreatDoor.K
open Go.ChangeShapes Go.WideShapes Go.ChangeAt Go.RowKit
set_option maxRecDepth 100000

theorem low_pd {u x : PM} (h : u.pd = x.pd) (hx : x.Low) : u.Low := by
  obtain ⟨u1, u2, u3, u4, u5, ua, uc, us⟩ := u
  obtain ⟨x1, x2, x3, x4, x5, xa, xc, xs⟩ := x
  simp only [PM.pd, Pd.mk.injEq] at h
  obtain ⟨rfl, rfl, rfl, rfl, rfl, h⟩ := h
  have hl : us.length = xs.length := by have := congrArg List.length h; simpa using this
  exact ⟨hx.name, hx.ns, hx.ir, hx.ig, by show us.length ≤ _; rw [hl]; exact hx.len, fun m hm => by
    have : m.c ∈ xs.map (·.c) := by rw [← h]; exact List.mem_map_of_mem hm
    obtain ⟨m', hm', e⟩ := List.mem_map.1 this
    rw [← e]; exact hx.cs m' hm'⟩
set_option maxHeartbeats 3000000 in
theorem codes3_any (p q : SM3) (w : World) (hp : AtL p.l w p.a) (hq : AtL q.l w q.a) (hby : BytesSays) (file : ByteArray) (hnm : file.size ≤ maxLen) (hT : Tabs w) (hfp : ∀ x ∈ p.l, x.Lo) (hfq : ∀ x ∈ q.l, x.Lo) (hlp : p.l.length ≤ 1048576) (hlq : q.l.length ≤ 1048576) (hs0 : 0 ≤ p.seq) (hs1 : p.seq ≤ 18446744073709551615) :
    Calls Tryz.prog 3 #[p.val, q.val, .string file] w fun e w' => e = .returned (.bool true) ∧ Fresh w w' := by
  have HT := Lib.hid hT
  have HAW := Lib.hid (fun W (f : Fresh w W) => awake19_any W (HT.out.move f))
  have HBS := Lib.hid hby
  unfold maxLen at hnm
  have HX := Lib.hid (two_boxes w (p.obj 25) (q.obj 25))
  have HF0 := Lib.hid HX.out.2.2.1
  have HP := Lib.hid hp
  have HQ := Lib.hid hq
  have HSM : Hid (∀ W, Fresh w W → Calls Tryz.prog 9 #[p.val] W fun e w' => e = .returned (.bool (sm3 0 p.l)) ∧ Fresh W w') := fun W f => small3_at p.seq p.a p.l p.c W (hp.move f) hlp hfp
  have HSM' : Hid (∀ W, Fresh w W → Calls Tryz.prog 9 #[q.val] W fun e w' => e = .returned (.bool (sm3 0 q.l)) ∧ Fresh W w') := fun W f => small3_at q.seq q.a q.l q.c W (hq.move f) hlq hfq
  have HPF := Lib.hid hfp
  have HQF := Lib.hid hfq
  clear hp hq hfp hfq hT hby
  cases hsp : sm3 0 p.l with
  | false =>
    rw [hsp] at HSM
    clear hsp HSM'
    obtain ⟨s, a, l, c⟩ := p
    obtain ⟨s', a', l', c'⟩ := q
    dsimp only [SM3.val, SM3.obj] at *
    go_enter Tryz.func3, Tryz.ntmps3
    go_wp2_with (fail)
    refine (HSM.out _ HF0.out).mono ?_
    rintro e w1 ⟨rfl, hf⟩
    have HF1 := Lib.hid (HF0.out.trans hf)
    clear hf
    go_wp2_with (fail)
    refine (HAW.out _ HF1.out).mono ?_
    rintro e w2 ⟨rfl, hf⟩
    have HF2 := Lib.hid (HF1.out.trans hf)
    clear hf
    go_wp2
    go_ret
    exact ⟨rfl, HF2.out⟩
  | true =>
    rw [hsp] at HSM
    cases hsq : sm3 0 q.l with
    | false =>
      rw [hsq] at HSM'
      clear hsp hsq
      obtain ⟨s, a, l, c⟩ := p
      obtain ⟨s', a', l', c'⟩ := q
      dsimp only [SM3.val, SM3.obj] at *
      go_enter Tryz.func3, Tryz.ntmps3
      go_wp2_with (fail)
      refine (HSM.out _ HF0.out).mono ?_
      rintro e w1 ⟨rfl, hf⟩
      obtain ⟨q0, q1, _⟩ := st3_box (hf.at HX.out.2.1)
      have HF1 := Lib.hid (HF0.out.trans hf)
      clear hf
      go_wp2_with (fail)
      refine (HSM'.out _ HF1.out).mono ?_
      rintro e w2 ⟨rfl, hf⟩
      have HF2 := Lib.hid (HF1.out.trans hf)
      clear hf q0 q1
      go_wp2_with (fail)
      refine (HAW.out _ HF2.out).mono ?_
      rintro e w3 ⟨rfl, hf⟩
      have HF3 := Lib.hid (HF2.out.trans hf)
      clear hf
      go_wp2
      go_ret
      exact ⟨rfl, HF3.out⟩
    | true =>
      rw [hsq] at HSM'
      clear hsp hsq
      by_cases hbig : 200 < file.size
      · obtain ⟨s, a, l, c⟩ := p
        obtain ⟨s', a', l', c'⟩ := q
        dsimp only [SM3.val, SM3.obj] at *
        go_enter Tryz.func3, Tryz.ntmps3
        go_wp2_with (fail)
        refine (HSM.out _ HF0.out).mono ?_
        rintro e w1 ⟨rfl, hf⟩
        obtain ⟨q0, q1, _⟩ := st3_box (hf.at HX.out.2.1)
        have HF1 := Lib.hid (HF0.out.trans hf)
        clear hf
        go_wp2_with (fail)
        refine (HSM'.out _ HF1.out).mono ?_
        rintro e w2 ⟨rfl, hf⟩
        have HF2 := Lib.hid (HF1.out.trans hf)
        clear hf q0 q1
        go_wp2_with (fail)
        all_goals try (exfalso; omega)
        refine (HAW.out _ HF2.out).mono ?_
        rintro e w3 ⟨rfl, hf⟩
        have HF3 := Lib.hid (HF2.out.trans hf)
        clear hf
        go_wp2
        go_ret
        exact ⟨rfl, HF3.out⟩
      have hns : file.size ≤ 200 := by omega
      clear hbig hnm
      have HSP : Hid (∀ (m : SM3) W, m.seq = p.seq ∧ m.l = p.l → AtL m.l W m.a → Calls Tryz.prog 12 #[m.val] W fun e w' => e = .returned (.int .i64 (chk3 p.l)) ∧ Fresh W w') := fun m W h hr => by
        have := rcheck3_at m.seq m.a m.l m.c W hr (by rw [h.2]; exact hlp) (by rw [h.2]; exact HPF.out)
        rw [h.2] at this
        have e : m.val = st3 m.seq m.a p.l.length m.c := by unfold SM3.val st3; rw [h.2]
        rw [e]; exact this
      have HCK : Hid (∀ W, Fresh w W → Calls Tryz.prog 14 #[p.val] W fun e w' => e = .returned (.int .i64 (chk3 p.l)) ∧ Fresh W w') := fun W f => check3_at p.seq p.a p.l p.c W (HT.out.move f) (HP.out.move f) hlp HPF.out
      have HBY : Hid (chk3 p.l = 0 → ∀ (m : SM3) W, m.seq = p.seq ∧ m.l = p.l → AtL m.l W m.a → Calls Tryz.prog 15 #[m.val] W fun e w' => e = .returned (.string (tx (enc3L p.seq p.l))) ∧ Fresh W w') := fun h0 m W h hr => by
        obtain ⟨h1, h2⟩ := chk3_ok h0
        have := HBS.out m.seq m.a m.l m.c W hr (by rw [h.2]; exact h2) (by rw [h.2]; exact h1) (by rw [h.1]; exact hs0) (by rw [h.1]; exact hs1)
        rw [h.1, h.2] at this
        have e : m.val = st3 p.seq m.a p.l.length m.c := by unfold SM3.val st3; rw [h.1, h.2]
        rw [e]; exact this
      have HEO : Hid (chk3 p.l = 0 → ∀ W, Fresh w W → Calls Tryz.prog 13 #[p.val] W fun e w' => e = .returned (.tuple #[.string (tx (enc3L p.seq p.l)), .int .i64 0]) ∧ Fresh W w') := fun h0 W f => encode3_at_ok p.seq p.a p.l p.c W (HT.out.move f) (HP.out.move f) hlp HPF.out h0 hs0 hs1
      have HEB : Hid (chk3 p.l ≠ 0 → ∀ W, Fresh w W → Calls Tryz.prog 13 #[p.val] W fun e w' => e = .returned (.tuple #[.string ⟨#[]⟩, .int .i64 (chk3 p.l)]) ∧ Fresh W w') := fun h0 W f => encode3_at_bad p.seq p.a p.l p.c W (HT.out.move f) (HP.out.move f) hlp HPF.out h0
      have HSS : Hid (∀ W, Fresh w W → Calls Tryz.prog 20 #[p.val, q.val] W fun e w' => e = .returned (.bool (same3 p.seq q.seq p.l q.l)) ∧ Fresh W w') := fun W f => csame3_at p.seq q.seq p.l q.l p.a q.a p.c q.c W (HP.out.move f) (HQ.out.move f) hlp HPF.out HQF.out
      have HS1 : Hid (∀ W, Fresh w W → Calls Tryz.prog 20 #[p.val, p.val] W fun e w' => e = .returned (.bool true) ∧ Fresh W w') := fun W f => by
        have := csame3_at p.seq p.seq p.l p.l p.a p.a p.c p.c W (HP.out.move f) (HP.out.move f) hlp HPF.out HPF.out
        rw [same3_self] at this
        exact this
      have HRS : Hid (∀ (m n : SM3) W, m.seq = p.seq ∧ m.l = p.l → n.seq = q.seq ∧ n.l = q.l → AtL m.l W m.a → AtL n.l W n.a → Calls Tryz.prog 21 #[m.val, n.val] W fun e w' => e = .returned (.bool (same3 p.seq q.seq p.l q.l)) ∧ Fresh W w') := fun m n W h h' hr hr' => by
        have := rsame3_at m.seq n.seq m.l n.l m.a n.a m.c n.c W hr hr' (by rw [h.2]; exact hlp) (by rw [h.2]; exact HPF.out) (by rw [h'.2]; exact HQF.out)
        rw [show same3 m.seq n.seq m.l n.l = same3 p.seq q.seq p.l q.l from by rw [h.1, h.2, h'.1, h'.2]] at this
        exact this
      have HFD : Hid (∀ W, Fresh w W → Calls Tryz.prog 16 #[p.val, .string file] W fun e w' => ∃ (x : PM) (ok : Bool), e = .returned (.tuple #[x.val, .bool ok]) ∧ x.At w' ∧ GotL file p.l x ok ∧ Fresh W w') := fun W f => find3_at p.seq p.a p.l p.c file W (HP.out.move f) hlp HPF.out
      have HFS : Hid (∀ (m : SM3) W, m.seq = p.seq ∧ m.l = p.l → AtL m.l W m.a → ∀ (i : Nat) (y : P3), p.l[i]? = some y → Calls Tryz.prog 17 #[m.val, .int .i64 (i : Int)] W fun e w' => ∃ r : Bool, e = .returned (.bool r) ∧ (r = true ↔ NoF y.file p.l i) ∧ Fresh W w') := fun m W h hr i y hy => by
        obtain ⟨hi, rfl⟩ := List.getElem?_eq_some_iff.1 hy
        obtain ⟨ms, ma, ml, mc⟩ := m
        obtain ⟨rfl, rfl⟩ := h
        exact first3_at _ ma _ mc i W hr hlp hi
      have HPA : Hid (p.At w) := ⟨HP.out, hlp, HPF.out⟩
      have HQA : Hid (q.At w) := ⟨HQ.out, hlq, HQF.out⟩
      generalize same3 p.seq q.seq p.l q.l = SB at *
      generalize tx (enc3L p.seq p.l) = X at *
      generalize chk3 p.l = K at *
      have hobj1 := HX.out.1
      have hobj2 := HX.out.2.1
      generalize hpv : p.val = pv at *
      generalize hqv : q.val = qv at *
      have hpv' : pv = .agg #[.int .u64 p.seq, .slice p.a p.l.length p.c] := hpv.symm
      have hqv' : qv = .agg #[.int .u64 q.seq, .slice q.a q.l.length q.c] := hqv.symm
      have HPV := Lib.hid hpv
      have HQV := Lib.hid hqv
      clear hpv hqv
      subst hpv' hqv'
      have X1 : Hid (((w.alloc (.cells #[.int .u64 p.seq, .slice p.a p.l.length p.c] 25)).alloc (.cells #[.int .u64 q.seq, .slice q.a q.l.length q.c] 25)).heap[w.heap.size]? = some (p.obj 25)) := hobj1
      have X2 : Hid (((w.alloc (.cells #[.int .u64 p.seq, .slice p.a p.l.length p.c] 25)).alloc (.cells #[.int .u64 q.seq, .slice q.a q.l.length q.c] 25)).heap[w.heap.size + 1]? = some (q.obj 25)) := hobj2
      have HF0 : Hid (Fresh w ((w.alloc (.cells #[.int .u64 p.seq, .slice p.a p.l.length p.c] 25)).alloc (.cells #[.int .u64 q.seq, .slice q.a q.l.length q.c] 25))) := HF0.out
      have HSZ : Hid (((w.alloc (.cells #[.int .u64 p.seq, .slice p.a p.l.length p.c] 25)).alloc (.cells #[.int .u64 q.seq, .slice q.a q.l.length q.c] 25)).heap.size = w.heap.size + 2) := HX.out.2.2.2
      clear HX hobj1 hobj2
      go_enter Tryz.func3, Tryz.ntmps3
      go_wp2_with (fail)
      generalize (w.alloc (.cells #[.int .u64 p.seq, .slice p.a p.l.length p.c] 25)).alloc (.cells #[.int .u64 q.seq, .slice q.a q.l.length q.c] 25) = W0 at *
      obtain ⟨b, hb⟩ : ∃ b, b = w.heap.size := ⟨_, rfl⟩
      have HBW := Lib.hid hb
      rw [← hb] at X1 X2 HSZ ⊢
      clear hb
      refine (HSM.out _ HF0.out).mono ?_
      rintro e w1 ⟨rfl, hf⟩
      have HF1 := Lib.hid hf
      obtain ⟨q0, q1, _⟩ := st3_box (hf.at X2.out)
      clear hf
      go_wp2_with (fail)
      refine (HSM'.out _ (HF0.out.trans HF1.out)).mono ?_
      rintro e w2 ⟨rfl, hf⟩
      have HF2 := Lib.hid (HF1.out.trans hf)
      clear hf q0 q1 HF1
      go_wp2_with (fail)
      all_goals try (exfalso; omega)
      rename_i KK hKK
      refine wp_region_any rfl ?_
      refine region3 (w0 := W0) (p := p) (q := q) (b := b) (c := b + 1) ⟨HPA.out.1.move HF0.out, HPA.out.2⟩ ⟨HQA.out.1.move HF0.out, HQA.out.2⟩ rfl rfl rfl rfl (HF2.out.at X1.out) (HF2.out.at X2.out) HF2.out.drew (by rw [HSZ.out]; omega) (by rw [HSZ.out]; omega) ?_
      intro a5 W5 m n zx zy hres
      refine hKK a5 W5 ?_
      have hact := hres.act rfl rfl
      have HM := Lib.hid hres.mp
      have HN := Lib.hid hres.nq
      have HMR : Hid (AtL m.l W5 m.a) := hres.om.choose_spec
      have HNR : Hid (AtL n.l W5 n.a) := hres.on.choose_spec
      have G1 := Lib.hid hres.g1
      have G2 := Lib.hid hres.g2
      have G3 := Lib.hid hres.g3
      have G4 := Lib.hid hres.g4
      have HF5 := Lib.hid (HF0.out.trans hres.fr)
      clear hres hKK X1 X2 HPA HQA HF2 HSM HSM'
      subst hact
      simp only [Act.put, List.setIfInBounds_toArray, List.set_cons_zero, List.set_cons_succ]
      have HKP : Hid (∀ W, Fresh W5 W → (W.cell? ⟨b, 0, none⟩ = some (.int .u64 p.seq) ∧ W.cell? ⟨b, 1, none⟩ = some (.slice p.a p.l.length p.c) ∧ W.cell? ⟨b + 1, 0, none⟩ = some (.int .u64 q.seq) ∧ W.cell? ⟨b + 1, 1, none⟩ = some (.slice q.a q.l.length q.c)) ∧ W.cell? ⟨zx, 0, none⟩ = some (.int .u64 m.seq) ∧ W.cell? ⟨zx, 1, none⟩ = some (.slice m.a m.l.length m.c) ∧ W.cell? ⟨zy, 0, none⟩ = some (.int .u64 n.seq) ∧ W.cell? ⟨zy, 1, none⟩ = some (.slice n.a n.l.length n.c)) := fun W f =>
        ⟨⟨(st3_box (f.at G1.out)).1, (st3_box (f.at G1.out)).2.1, (st3_box (f.at G2.out)).1, (st3_box (f.at G2.out)).2.1⟩, (st3_box (f.at G3.out)).1, (st3_box (f.at G3.out)).2.1, (st3_box (f.at G4.out)).1, (st3_box (f.at G4.out)).2.1⟩
      clear G1 G2 G3 G4
      have HVM : Hid (m.val = .agg #[.int .u64 m.seq, .slice m.a m.l.length m.c]) := rfl
      have HVN : Hid (n.val = .agg #[.int .u64 n.seq, .slice n.a n.l.length n.c]) := rfl
      have HFS := Lib.hid (fun W (f : Fresh W5 W) => HFS.out m W HM.out (HMR.out.move f))
      have HFD := Lib.hid (fun W (f : Fresh W5 W) => HFD.out W (HF5.out.trans f))
      have HML := Lib.hid HM.out.2
      obtain ⟨D, hD, hrow⟩ := HMR.out
      have HPD : Hid (pods3 D = p.l) := hD.trans HM.out.2
      have HROW := Lib.hid hrow
      have HDM : Hid (m.l.length = D.length) := by rw [Hid, ← hD, pods3_length]
      have HDP : Hid (p.l.length = D.length) := by rw [Hid, ← HPD.out, pods3_length]
      clear hD hrow
      have HSP := Lib.hid (fun W (f : Fresh W5 W) => HSP.out m W HM.out (HMR.out.move f))
      have HBY := Lib.hid (fun h W (f : Fresh W5 W) => HBY.out h m W HM.out (HMR.out.move f))
      have HRS := Lib.hid (fun W (f : Fresh W5 W) => HRS.out m n W HM.out HN.out (HMR.out.move f) (HNR.out.move f))
      rw [HVM.out] at HSP HBY HFS
      rw [HVM.out, HVN.out] at HRS
      clear HM HN HMR HNR HVM HVN
      obtain ⟨⟨k0, k1, k2, k3⟩, k4, k5, k6, k7⟩ := HKP.out W5 (.refl _)
      have HK := Lib.hid (Fresh.refl W5)
      have HCK := Lib.hid (fun W (f : Fresh W5 W) => HCK.out W (HF5.out.trans f))
      have HSS := Lib.hid (fun W (f : Fresh W5 W) => HSS.out W (HF5.out.trans f))
      have HS1 := Lib.hid (fun W (f : Fresh W5 W) => HS1.out W (HF5.out.trans f))
      have HEO := Lib.hid (fun h W (f : Fresh W5 W) => HEO.out h W (HF5.out.trans f))
      have HEB := Lib.hid (fun h W (f : Fresh W5 W) => HEB.out h W (HF5.out.trans f))
      generalize m.l.length = ml at *
      generalize n.l.length = nl at *
      generalize p.l.length = pl at *
      generalize q.l.length = ql at *
      go_wp2_with (fail)
      refine (HSP.out _ HK.out).mono ?_
      rintro e w6 ⟨rfl, hf⟩
      have HK := Lib.hid (HK.out.trans hf)
      obtain ⟨⟨k0, k1, k2, k3⟩, k4, k5, k6, k7⟩ := HKP.out _ HK.out
      clear hf
      by_cases hK0 : K = 0
      case' pos =>
        have HEO2 := Lib.hid (HEO.out hK0)
        have HBY2 := Lib.hid (HBY.out hK0)
        clear HEB HEO HBY
        subst hK0
        go_wp2_with (fail)
        refine (HEO2.out _ HK.out).mono ?_
        rintro e w7 ⟨rfl, hf⟩
        have HK := Lib.hid (HK.out.trans hf)
        obtain ⟨⟨k0, k1, k2, k3⟩, k4, k5, k6, k7⟩ := HKP.out _ HK.out
        clear hf
        go_wp2_with (fail)
        refine (HCK.out _ HK.out).mono ?_
        rintro e w8 ⟨rfl, hf⟩
        have HK := Lib.hid (HK.out.trans hf)
        obtain ⟨⟨k0, k1, k2, k3⟩, k4, k5, k6, k7⟩ := HKP.out _ HK.out
        clear hf
        go_wp2_with (fail)
        refine (HBY2.out _ HK.out).mono ?_
        rintro e w9 ⟨rfl, hf⟩
        have HK := Lib.hid (HK.out.trans hf)
        obtain ⟨⟨k0, k1, k2, k3⟩, k4, k5, k6, k7⟩ := HKP.out _ HK.out
        clear hf
        go_wp2_with (fail)
      case' neg =>
        have HEB2 := Lib.hid (HEB.out hK0)
        have e0 : (K == 0) = false := by rw [beq_eq_false_iff_ne]; exact hK0
        have e1 : (K != 0) = true := by simpa using hK0
        clear HEO HBY HEB hK0
        go_wp2_with (fail)
        refine (HEB2.out _ HK.out).mono ?_
        rintro e w7 ⟨rfl, hf⟩
        have HK := Lib.hid (HK.out.trans hf)
        obtain ⟨⟨k0, k1, k2, k3⟩, k4, k5, k6, k7⟩ := HKP.out _ HK.out
        clear hf
        go_wp2_with (fail)
        refine (HCK.out _ HK.out).mono ?_
        rintro e w8 ⟨rfl, hf⟩
        have HK := Lib.hid (HK.out.trans hf)
        obtain ⟨⟨k0, k1, k2, k3⟩, k4, k5, k6, k7⟩ := HKP.out _ HK.out
        clear hf
        go_wp2_with (fail)
      all_goals
        refine (HFD.out _ HK.out).mono ?_
        rintro e w10 ⟨x, ok, rfl, hxa, hgot, hf⟩
        obtain ⟨x1, x2, x3, x4, x5, xa, xc, xs⟩ := x
        have HGOT := Lib.hid hgot
        have HXA := Lib.hid hxa
        have HK := Lib.hid ((HK.out.trans hf).alloc (.cells #[.string x1, .string x2, .int .i64 x3, .int .i64 x4, .bool x5, .slice xa xs.length xc] 41))
        have HXB := Lib.hid (at_new w10 (.cells #[.string x1, .string x2, .int .i64 x3, .int .i64 x4, .bool x5, .slice xa xs.length xc] 41))
        have HX1 := Lib.hid ((Fresh.refl w10).alloc (.cells #[.string x1, .string x2, .int .i64 x3, .int .i64 x4, .bool x5, .slice xa xs.length xc] 41))
        obtain ⟨⟨k0, k1, k2, k3⟩, k4, k5, k6, k7⟩ := HKP.out _ HK.out
        clear hf hgot hxa
        have hml0 : ml ≤ 1048576 := by rw [HDM.out, ← HDP.out]; exact hlp
        have hpred : wrap64 ((ml : Int) - 1) = (ml : Int) - 1 := by unfold wrap64; omega
        dsimp only [PM.val]
        generalize hxl : xs.length = xl at *
        have HXL := Lib.hid hxl
        clear hxl
        go_wp2_with (fail)
        generalize w10.alloc (.cells #[.string x1, .string x2, .int .i64 x3, .int .i64 x4, .bool x5, .slice xa xl xc] 41) = W11 at *
        obtain ⟨y, hy⟩ : ∃ y, y = w10.heap.size := ⟨_, rfl⟩
        rw [← hy] at HXB ⊢
        clear hy
        clear k0 k1 k2 k3 k4 k5 k6 k7
        obtain ⟨mseq, ma, mL, mc⟩ := m
        dsimp only at *
        have HLE : Hid (p.l.length = D.length) := by rw [Hid, ← HPD.out, pods3_length]
        obtain ⟨N, hN⟩ : ∃ N, N = D.length := ⟨_, rfl⟩
        have HN := Lib.hid hN
        have hmN : ml = N := by rw [HDM.out, hN]
        clear hN
        subst hmN
        go_loopw [14, 15] (fun a14 a15 wr => ∃ i : Nat, i ≤ ml ∧ a15 = .int .i64 ((i : Int) - 1) ∧ a14 = .bool (isFrom file p.l i) ∧ Hid (Fresh W11 wr)) (fun _ a15 _ => (intOf a15 + 1).toNat)
        case atStart => exact ⟨ml, Nat.le_refl _, rfl, by rw [HN.out, ← HLE.out, isFrom_end], .refl _⟩
        case round =>
        obtain ⟨i, hi, rfl, rfl, HFI⟩ := hrel
        have HKI := Lib.hid (HK.out.trans HFI.out)
        obtain ⟨⟨k0, k1, k2, k3⟩, k4, k5, k6, k7⟩ := HKP.out _ HKI.out
        by_cases h0 : 0 < i
        · obtain ⟨k, rfl⟩ : ∃ k, i = k + 1 := ⟨i - 1, by omega⟩
          have ek : (((k + 1 : Nat) : Int) - 1) = (k : Int) := by omega
          have hkd : k < D.length := by rw [← HN.out]; omega
          have hkp : k < p.l.length := by rw [HLE.out]; exact hkd
          obtain ⟨g, o1, rfl, hc⟩ := m3_form (HROW.out.row.move HKI.out) hkd
          obtain ⟨c0, c1, c2, c3, c4, c5, c6⟩ := hc k hkd
          have hpk : p.l[k]? = some D[k].p := by
            rw [← HPD.out, List.getElem?_eq_getElem (by rw [pods3_length]; exact hkd), pods3_get hkd]
          have HFSK := Lib.hid (fun W f => HFS.out W f k D[k].p hpk)
          have hpk2 : p.l[k] = D[k].p := by rw [List.getElem?_eq_getElem hkp] at hpk; exact Option.some.inj hpk
          have HGK : Hid (D[k].file = file → ok = true ∧ (PM.mk x1 x2 x3 x4 x5 xa xc xs).Low ∧ (NoF D[k].p.file p.l k → PM.pd ⟨x1, x2, x3, x4, x5, xa, xc, xs⟩ = D[k].p.pd)) := fun e => by
            have := got_at HGOT.out hkp (by rw [hpk2]; exact e)
            rw [hpk2] at this; exact this
          have HYES : Hid (D[k].file = file → isFrom file p.l k = true) := fun e => isFrom_yes hkp (by rw [hpk2]; exact e)
          have HNO : Hid (¬ D[k].file = file → isFrom file p.l k = isFrom file p.l (k + 1)) := fun e => isFrom_no hkp (by rw [hpk2]; exact e)
          have HDA := Lib.hid ((HROW.out.ins _ (List.getElem_mem hkd)).move HKI.out)
          have i1 : (0 : Int) ≤ (k : Int) := by omega
          have i2 : (k : Int) < (ml : Int) := by omega
          have hpred : wrap64 ((k : Int) - 1) = (k : Int) - 1 := by unfold wrap64; omega
          rw [ek]
          clear hc hpk hpk2 hkp ek
          generalize D[k] = d at *
          clear hkd
          obtain ⟨d0, d1, d2, d3, d4, d5, da, dc, ds⟩ := d
          dsimp only [M3.p] at *
          by_cases hs : d0 = file
          · obtain ⟨hok, hlow, hpd⟩ := HGK.out hs
            have HYE := Lib.hid (HYES.out hs)
            have HLOW := Lib.hid hlow
            have HPE := Lib.hid hpd
            clear HGK HYES HNO hlow hpd
            subst hs
            subst hok
            clear HFS
            generalize hdl : ds.length = dl at *
            have HDL := Lib.hid hdl
            clear hdl
            go_wp2_with (fail)
            all_goals try (exfalso; omega)
            refine (HFSK.out _ HKI.out).mono ?_
            rintro e w12 ⟨r, rfl, hr, hf⟩
            have HR := Lib.hid hr
            have HFI := Lib.hid (HFI.out.trans hf)
            clear hr
            cases r with
            | false =>
              clear hf
              go_wp2_with (fail)
              all_goals try (exfalso; omega)
              go_roundw
              case rel => exact ⟨k, by omega, rfl, by rw [HYE.out], HFI.out⟩
              case measure => simp [intOf]
            | true =>
              have hpe := HPE.out (HR.out.1 rfl)
              have HPE2 := Lib.hid hpe
              have HXO : Hid (∀ W, Fresh w12 W → Calls Tryz.prog 19 #[.agg #[.string x1, .string x2, .int .i64 x3, .int .i64 x4, .bool x5, .slice xa xl xc]] W fun e w' => ∃ u : PM, e = .returned u.val ∧ u.pd = PM.pd ⟨x1, x2, x3, x4, x5, xa, xc, xs⟩ ∧ u.At w' ∧ Fresh W w') := fun W f => by
                have := of_any ⟨x1, x2, x3, x4, x5, xa, xc, xs⟩ W (HXA.out.move ((HX1.out.trans HFI.out).trans f)) HLOW.out
                rw [show PM.val ⟨x1, x2, x3, x4, x5, xa, xc, xs⟩ = .agg #[.string x1, .string x2, .int .i64 x3, .int .i64 x4, .bool x5, .slice xa xl xc] from by rw [← HXL.out]; rfl] at this
                exact this
              have HXS : Hid (∀ (u : PM) W, u.pd = PM.pd ⟨x1, x2, x3, x4, x5, xa, xc, xs⟩ → u.At W → Fresh w12 W → Calls Tryz.prog 18 #[u.val, .agg #[.string d1, .string d2, .int .i64 d3, .int .i64 d4, .bool d5, .slice da dl dc]] W fun e w' => e = .returned (.bool true) ∧ Fresh W w') := fun u W hu ha f => by
                have := Go.Proofs.YtldncgelghcjeaaGreatDoor.rsame_any u ⟨d1, d2, d3, d4, d5, da, dc, ds⟩ W ha ((HDA.out.move hf).move f) (low_pd hu HLOW.out) (low_pd HPE2.out.symm HLOW.out)
                rw [show PM.val ⟨d1, d2, d3, d4, d5, da, dc, ds⟩ = .agg #[.string d1, .string d2, .int .i64 d3, .int .i64 d4, .bool d5, .slice da dl dc] from by rw [← HDL.out]; rfl, hu, HPE2.out, sameP_refl] at this
                exact this
              have HRK : Hid (∀ w', Fresh w12 w' → (w'.cell? ⟨y, 0, none⟩ = some (.string x1) ∧ w'.cell? ⟨y, 1, none⟩ = some (.string x2) ∧ w'.cell? ⟨y, 2, none⟩ = some (.int .i64 x3) ∧ w'.cell? ⟨y, 3, none⟩ = some (.int .i64 x4) ∧ w'.cell? ⟨y, 4, none⟩ = some (.bool x5) ∧ w'.cell? ⟨y, 5, none⟩ = some (.slice xa xl xc)) ∧ (w'.cell? ⟨zx, 1, none⟩ = some (.slice (some ⟨g, o1, none⟩) ml mc)) ∧ w'.cell? ⟨g, o1 + k * 7 + 1, none⟩ = some (.string d1) ∧ w'.cell? ⟨g, o1 + k * 7 + 2, none⟩ = some (.string d2) ∧ w'.cell? ⟨g, o1 + k * 7 + 3, none⟩ = some (.int .i64 d3) ∧ w'.cell? ⟨g, o1 + k * 7 + 4, none⟩ = some (.int .i64 d4) ∧ w'.cell? ⟨g, o1 + k * 7 + 5, none⟩ = some (.bool d5) ∧ w'.cell? ⟨g, o1 + k * 7 + 6, none⟩ = some (.slice da dl dc)) := fun W f =>
                ⟨⟨cell_of_at (f.at (HFI.out.at HXB.out)) rfl, cell_of_at (f.at (HFI.out.at HXB.out)) rfl, cell_of_at (f.at (HFI.out.at HXB.out)) rfl, cell_of_at (f.at (HFI.out.at HXB.out)) rfl, cell_of_at (f.at (HFI.out.at HXB.out)) rfl, cell_of_at (f.at (HFI.out.at HXB.out)) rfl⟩, f.cell (hf.cell k5), f.cell (hf.cell c1), f.cell (hf.cell c2), f.cell (hf.cell c3), f.cell (hf.cell c4), f.cell (hf.cell c5), f.cell (hf.cell c6)⟩
              clear k0 k1 k2 k3 k4 k5 k6 k7 c0 c1 c2 c3 c4 c5 c6 hpe
              have HKK : Hid (Fresh w12 w12) := .refl _
              obtain ⟨⟨b0, b1, b2, b3, b4, b5⟩, k5, c1, c2, c3, c4, c5, c6⟩ := HRK.out _ HKK.out
              go_wp2_with (fail)
              all_goals try (exfalso; omega)
              have HKK := Lib.hid HKK.out.drew
              go_region_held3 (fun w' => (w'.cell? ⟨y, 0, none⟩ = some (.string x1) ∧ w'.cell? ⟨y, 1, none⟩ = some (.string x2) ∧ w'.cell? ⟨y, 2, none⟩ = some (.int .i64 x3) ∧ w'.cell? ⟨y, 3, none⟩ = some (.int .i64 x4) ∧ w'.cell? ⟨y, 4, none⟩ = some (.bool x5) ∧ w'.cell? ⟨y, 5, none⟩ = some (.slice xa xl xc)) ∧ (w'.cell? ⟨zx, 1, none⟩ = some (.slice (some ⟨g, o1, none⟩) ml mc)) ∧ w'.cell? ⟨g, o1 + k * 7 + 1, none⟩ = some (.string d1) ∧ w'.cell? ⟨g, o1 + k * 7 + 2, none⟩ = some (.string d2) ∧ w'.cell? ⟨g, o1 + k * 7 + 3, none⟩ = some (.int .i64 d3) ∧ w'.cell? ⟨g, o1 + k * 7 + 4, none⟩ = some (.int .i64 d4) ∧ w'.cell? ⟨g, o1 + k * 7 + 5, none⟩ = some (.bool d5) ∧ w'.cell? ⟨g, o1 + k * 7 + 6, none⟩ = some (.slice da dl dc)) (go_keep)
                (first
                  | (go_at_call 19; (with_reducible refine (HXO.out _ HKK.out).mono ?_); rintro e W2 ⟨u, rfl, hu1, hu2, hf2⟩; have HU1 := Lib.hid hu1; have HU2 := Lib.hid hu2; have HKK := Lib.hid (HKK.out.trans hf2); obtain ⟨⟨b0, b1, b2, b3, b4, b5⟩, k5, c1, c2, c3, c4, c5, c6⟩ := HRK.out _ HKK.out; clear hf2 hu1 hu2)
                  | (go_at_call 18; (with_reducible refine (HXS.out _ _ HU1.out HU2.out HKK.out).mono ?_); rintro e W2 ⟨rfl, hf2⟩; have HKK := Lib.hid (HKK.out.trans hf2); obtain ⟨⟨b0, b1, b2, b3, b4, b5⟩, k5, c1, c2, c3, c4, c5, c6⟩ := HRK.out _ HKK.out; clear hf2))
              all_goals go_wp2
              all_goals try (exfalso; omega)
              all_goals go_roundw
              case rel => exact ⟨k, by omega, rfl, by rw [HYE.out], HFI.out.trans HKK.out⟩
              case measure => simp [intOf]
          · have HE := Lib.hid (HNO.out hs)
            have e9 := tl_ne hs
            clear HGK HYES HNO hs
            generalize isFrom file p.l (k + 1) = IS at *
            go_wp2_with (fail)
            all_goals try (exfalso; omega)
            go_roundw
            case rel => exact ⟨k, by omega, rfl, by rw [HE.out], HFI.out⟩
            case measure => simp [intOf]
        · obtain rfl : i = 0 := by omega
          have eg := got_is HGOT.out
          rw [eg]
          have eo : (ok == ok) = true := by simp
          go_wp2_with (fail)
          have HKI := Lib.hid HKI.out.drew
          go_region_held3 (fun w' => ((w'.cell? ⟨b, 0, none⟩ = some (.int .u64 p.seq) ∧ w'.cell? ⟨b, 1, none⟩ = some (.slice p.a pl p.c) ∧ w'.cell? ⟨b + 1, 0, none⟩ = some (.int .u64 q.seq) ∧ w'.cell? ⟨b + 1, 1, none⟩ = some (.slice q.a ql q.c)) ∧ w'.cell? ⟨zx, 0, none⟩ = some (.int .u64 mseq) ∧ w'.cell? ⟨zx, 1, none⟩ = some (.slice ma ml mc) ∧ w'.cell? ⟨zy, 0, none⟩ = some (.int .u64 n.seq) ∧ w'.cell? ⟨zy, 1, none⟩ = some (.slice n.a nl n.c))) (go_keep)
            (first
              | (go_at_call 10; (with_reducible refine (HAW.out _ (HF5.out.trans HKI.out)).mono ?_); rintro e W2 ⟨rfl, hf⟩; have HKI := Lib.hid (HKI.out.trans hf); obtain ⟨⟨k0, k1, k2, k3⟩, k4, k5, k6, k7⟩ := HKP.out _ HKI.out; clear hf)
              | (go_at_call 20; (with_reducible refine (HSS.out _ HKI.out).mono ?_); rintro e W2 ⟨rfl, hf⟩; have HKI := Lib.hid (HKI.out.trans hf); obtain ⟨⟨k0, k1, k2, k3⟩, k4, k5, k6, k7⟩ := HKP.out _ HKI.out; clear hf)
              | (go_at_call 21; (with_reducible refine (HRS.out _ HKI.out).mono ?_); rintro e W2 ⟨rfl, hf⟩; have HKI := Lib.hid (HKI.out.trans hf); obtain ⟨⟨k0, k1, k2, k3⟩, k4, k5, k6, k7⟩ := HKP.out _ HKI.out; clear hf)
              | (go_at_call 20; (with_reducible refine (HS1.out _ HKI.out).mono ?_); rintro e W2 ⟨rfl, hf⟩; have HKI := Lib.hid (HKI.out.trans hf); obtain ⟨⟨k0, k1, k2, k3⟩, k4, k5, k6, k7⟩ := HKP.out _ HKI.out; clear hf))
          all_goals go_wp2
          all_goals go_ret
          all_goals exact ⟨rfl, HF5.out.trans HKI.out⟩
end Go.Proofs.YtldncgelghcjeaaGreatDoor.K
namespace Go.Proofs.YtldncgelghcjeaaGreatDoor
open Go.ChangeShapes Go.WideShapes Go.ChangeAt Go.RowKit Go.Shelf
open Go.ChangeMaps (open_string shut_string)
set_option linter.unusedVariables false

abbrev st0c : Value := .agg #[.int .u64 0, .slice none 0 0]
theorem laid_metC (os : Os) (args : Array Value) : laidMet Tryz.prog Rows.ckthreeCodesUptoRow.laid ((laidWorld os).forCall (fun _ _ => 0) ⟨#[], args, []⟩).memory :=
  (LaidIn.of_run (l := [("unicode/utf8.acceptRanges", Rows.laid_unicode_utf8_acceptRanges), ("unicode/utf8.first", Rows.laid_unicode_utf8_first)]) [1, 0] 8 (by kernel_rfl) (by kernel_rfl) (by kernel_rfl) (by kernel_rfl)).met
theorem witness_codes (os : Os) {H : Type} (enc : TypeId × Value → H) :
    (Rows.OpenSpec.upto Rows.ckthreeCodesSpec).preRow enc Tryz.prog Tryz.f3 Rows.ckthreeCodesUptoRow.domain false Rows.ckthreeCodesUptoRow.laid ((laidWorld os).forCall (fun _ _ => 0) ⟨#[], #[st0c, st0c, .string ⟨#[]⟩], []⟩).memory #[st0c, st0c, .string ⟨#[]⟩] := by
  have hw : (DataW.whole enc Tryz.prog ((laidWorld os).forCall (fun _ _ => 0) ⟨#[], #[st0c, st0c, .string ⟨#[]⟩], []⟩).memory Tryz.f3.params.toList (Rows.OpenSpec.upto Rows.ckthreeCodesSpec).vars false #[st0c, st0c, Value.string ⟨#[]⟩].toList 8).map (fun x => (x.1, x.2.1)) =
      some ([.agg [.lit (.int .u64 0), .nil], .agg [.lit (.int .u64 0), .nil], .lit (.string [])], []) := by kernel_rfl
  obtain ⟨⟨x1, x2, x3⟩, hx, hx1⟩ := Option.map_eq_some_iff.1 hw
  simp only [Prod.mk.injEq] at hx1
  obtain ⟨rfl, rfl⟩ := hx1
  exact OpenSpec.preRow_of_cond 8 hx (by kernel_rfl) (fun k hk => by cases hk; kernel_rfl) (by kernel_rfl) (laid_metC os _)
set_option maxRecDepth 100000 in
theorem utf8_tabsC {W : World} (hL : laidMet Tryz.prog Rows.ckthreeCodesUptoRow.laid W) : UTabs W :=
  utf8Tabs_of_readsT u8types ⟨by kernel_rfl, by kernel_rfl, by kernel_rfl, by kernel_rfl, by kernel_rfl, by kernel_rfl, by kernel_rfl⟩
    (by rw [← first_eq]; exact Lib.laidMet.reads hL (.tail _ (.head _))) (by rw [← accept_eq]; exact Lib.laidMet.reads hL (.head _))
set_option maxRecDepth 100000 in
set_option maxHeartbeats 2000000 in
theorem lifted_codes (hby : K.BytesSays) (os : Os) (started : os.Started) (H : Type) (enc : TypeId × Value → H) (F : Stop.Interp) :
    ReturnsInHanded {} Tryz.checked os 3 .any ((Rows.OpenSpec.upto Rows.ckthreeCodesSpec).preRow enc Tryz.prog Tryz.f3 Rows.ckthreeCodesUptoRow.domain false Rows.ckthreeCodesUptoRow.laid) (((Rows.OpenSpec.upto Rows.ckthreeCodesSpec).at F).post enc Tryz.prog Tryz.f3 false true false false) := by
  refine returnsInHanded_of_row (C := Tryz.checked) (s := Rows.OpenSpec.upto Rows.ckthreeCodesSpec) own started (by kernel_rfl) Tryz.func3
    (witness_row_atRef (enc := enc) (C := Tryz.checked) false (laidWorld os) #[st0c, st0c, .string ⟨#[]⟩] rfl (by kernel_rfl) (by kernel_rfl) (by kernel_rfl) (witness_codes os enc)) ?_
  intro W base args ds gs before hval0 hW _ hcond _ hL _ _
  have hval : ∀ (j : Nat) t v, Tryz.f3.params[j]? = some t → args[j]? = some v → Value.okWide Tryz.prog W .any base t v := hval0
  have hW' := hW
  obtain ⟨p, q, hA0, hV0, rfl, _, _⟩ := hW
  have hA : DataW.TrodAll enc Tryz.prog W 0 (fun _ => true) true Tryz.f3.params.toList args.toList ds p := hA0
  rw [Tryz.params3] at hA hval
  obtain ⟨v0, vs0, d0, ds0, p0, q0, hargs, rfl, rfl, h0, r0⟩ := trodAll_cons hA
  obtain ⟨v1, vs1, d1, ds1, p1, q1, rfl, rfl, rfl, h1, r1⟩ := trodAll_cons r0
  obtain ⟨v2, vs2, d2, ds2, p2, q2, rfl, rfl, rfl, h2, r2⟩ := trodAll_cons r1
  obtain ⟨rfl, rfl, rfl⟩ := trodAll_nil r2
  obtain rfl : args = #[v0, v1, v2] := by cases args; simp_all
  obtain ⟨rfl, rfl⟩ := trodVars_none hV0
  have hk : Rows.uptoSmall H ([d0, d1, d2] ++ []) = true := hcond _ rfl
  have hk2 : Rows.uptoBulkAll ([d0, d1, d2] ++ []) ≤ 1048576 := of_decide_eq_true hk
  simp only [List.append_nil, Rows.uptoBulkAll] at hk2
  obtain ⟨seq, L, a, c, e0, a0, s0, s1, l0⟩ := K.arg_st3 (hval 0 25 v0 rfl rfl) h0
  obtain ⟨seq', L', a', c', e0', a0', s0', s1', l0'⟩ := K.arg_st3 (hval 1 25 v1 rfl rfl) h1
  obtain ⟨b1, rfl, rfl, rfl, w1⟩ := open_string Tryz.underlying9 (hval 2 9 v2 rfl rfl) h2
  have lt0 := trod_low h0
  have lt1 := trod_low h1
  obtain ⟨l1, l2⟩ := l0 (by omega)
  obtain ⟨l1', l2'⟩ := l0' (by omega)
  subst e0 e0'
  refine (K.codes3_any ⟨seq, a, L, c⟩ ⟨seq', a', L', c'⟩ W a0 a0' hby b1 w1 (utf8_tabsC hL) l2 l2' l1 l1' s0 s1).mono ?_
  rintro e W' ⟨rfl, hg⟩
  have e1 : ((Rows.OpenSpec.upto Rows.ckthreeCodesSpec).at F).fn H ([d0, d1, .lit (.string b1.data.toList)] ++ []) = { results := [.lit (.bool true)], args := [d0, d1, .lit (.string b1.data.toList)] } := rfl
  refine ⟨_, rfl, _, _, _, [], p0 ++ (p1 ++ ([] ++ [])), [], hW', ?_, ?_, ?_, hg.frame _, fun h => by cases h⟩
  · rw [e1]; exact trodAll_mk1 (shut_bool Tryz.underlying4 _)
  · rw [e1]; exact trodAll_cons_mk (Below.trod laidOut (by kernel_rfl) (of_decide_eq_true (by kernel_rfl)) h0 hg lt0) (trodAll_cons_mk (Below.trod laidOut (by kernel_rfl) (of_decide_eq_true (by kernel_rfl)) h1 hg lt1) (trodAll_cons_mk (shut_string Tryz.underlying9 w1) trodAll_mk0))
  · rw [e1]; rfl
theorem codes_row (hby : K.BytesSays) : Rows.CkthreeCodesUptoSaid :=
  OpenClaim.holds_of_cond 3 Tryz.f3 rfl rfl rfl rfl rfl rfl rfl ⟨rfl, rfl, rfl, rfl, rfl⟩ rfl rfl rfl rfl rfl (by kernel_rfl) Tryz.func3 (by kernel_rfl)
    (of_decide_eq_true (by kernel_rfl)) (by unfold Func.isWrapper; first | (rw [if_neg (of_decide_eq_false (by kernel_rfl))]; exact ⟨rfl, rfl⟩) | (rw [if_pos (by decide +kernel)]; kernel_rfl))
    (fun os started H enc _ F0 => by rw [OpenClaim.pre_eq_preRow]; exact lifted_codes hby os started H enc F0)
theorem plain_codes (f : FuncId) (fn : Func) (hf : Tryz.pinned.checked.prog.funcNamed "bosun/bosunlaw19.CkthreeCodes" = some f) (hfn : Tryz.pinned.checked.prog.funcs[f]? = some fn) :
    false = Tryz.pinned.checked.prog.looks [] ∧ ∀ (j : Nat) t, fn.params[j]? = some t → Tryz.pinned.checked.prog.wantsStandIn t = false := by
  obtain rfl : f = 3 := Option.some.inj ((show Tryz.prog.funcNamed "bosun/bosunlaw19.CkthreeCodes" = some 3 by kernel_rfl).symm.trans hf) |>.symm
  obtain rfl : fn = Tryz.f3 := (Option.some.inj (Tryz.func3.symm.trans hfn)).symm
  refine ⟨by kernel_rfl, fun j t ht => ?_⟩
  rw [Tryz.params3] at ht
  have h3 : t = 25 ∨ t = 9 := by
    rcases j with _ | _ | _ | j
    · exact .inl (by simpa using ht.symm)
    · exact .inl (by simpa using ht.symm)
    · exact .inr (by simpa using ht.symm)
    · simp at ht
  rcases h3 with rfl | rfl
  · exact (show Tryz.prog.wantsStandIn 25 = false by kernel_rfl)
  · exact (show Tryz.prog.wantsStandIn 9 = false by kernel_rfl)
theorem codes_card (hby : K.BytesSays) : Rows.CkthreeCodesUptoCardSaid :=
  Claim7.holds_tied_plain_at .later [] _ _ _ _ (codes_row hby) (fun _ h => by cases h) (by kernel_rfl) (fun _ h => by cases h) ckthreeCodesUpto_row_tie rfl ⟨rfl, rfl⟩ (by kernel_rfl) rfl plain_codes (by kernel_rfl)
end Go.Proofs.YtldncgelghcjeaaGreatDoor
namespace Go.Proofs.YtldncgelghcjeaaGreatDoor.K
open Go.ChangeShapes Go.WideShapes Go.ChangeAt Go.RowKit
set_option maxRecDepth 100000

theorem rput_at (n : Int) (v : Int) (w : World) (h : okN n = true) (h0 : 0 ≤ v) (h1 : v < 18446744073709551616) :
    Calls Tryz.prog 50 #[.int .i64 n, .int .u64 v] w fun e w' => e = .returned (.string (beS n.toNat v.toNat)) ∧ Fresh w w' := rput_yes n v w h h0 h1
theorem rtext_tx (s : ByteArray) (w : World) (h : s.size ≤ 4096) : Calls Tryz.prog 51 #[.string s] w fun e w' => e = .returned (.string (tx (txtL s))) ∧ Fresh w w' := by
  rw [← txt_tx]; exact rtext_ok s w h
theorem rflagB_any (b : Bool) (w : World) : Calls Tryz.prog 52 #[.bool b] w fun e w' => e = .returned (.string (beS 1 b.toNat)) ∧ Fresh w w' := by
  cases b
  all_goals
    go_enter Tryz.func52, Tryz.ntmps52
    go_wp2
    all_goals try (exfalso; omega)
    go_ret
    exact ⟨rfl, .refl _⟩
/-! ### what a loop lays -/
section
variable {α : Type}
def acc (P : ByteArray) (f : α → List UInt8) (l : List α) (i : Nat) : ByteArray := P ++ tx ((l.take i).flatMap f)
theorem acc_zero (P : ByteArray) (f : α → List UInt8) (l : List α) : acc P f l 0 = P := by
  unfold acc
  apply list_ext
  rw [app_list, List.take_zero, List.flatMap_nil, tx_toList, List.append_nil]
theorem acc_succ (P : ByteArray) (f : α → List UInt8) {l : List α} {i : Nat} (h : i < l.length) : acc P f l (i + 1) = acc P f l i ++ tx (f l[i]) := by
  unfold acc
  rw [List.take_succ_eq_append_getElem h, List.flatMap_append]
  apply list_ext
  simp [app_list, tx_toList]
theorem acc_full (P : ByteArray) (f : α → List UInt8) (l : List α) : acc P f l l.length = P ++ tx (l.flatMap f) := by
  unfold acc
  rw [List.take_length]
theorem acc_size (P : ByteArray) (f : α → List UInt8) (l : List α) (i m k : Nat) (h : ∀ x ∈ l, (f x).length ≤ m) (hl : l.length ≤ k) : (acc P f l i).size ≤ P.size + k * m := by
  have h1 := flat_le f m (l.take i) (fun x hx => h x (List.mem_of_mem_take hx))
  have h2 : (l.take i).length * m ≤ k * m := Nat.mul_le_mul (by rw [List.length_take]; omega) (Nat.le_refl _)
  unfold acc
  rw [ByteArray.size_append, tx_size]
  omega
end
/-- A pod's bytes ahead of its containers; a container's ahead of its Command. -/
def head3L (p : P3) : List UInt8 := txtL p.file ++ (txtL p.pd.name ++ (txtL p.pd.ns ++ (be 1 p.pd.restart.toNat ++ (be 2 p.pd.grace.toNat ++ (be 1 p.pd.host.toNat ++ be 1 p.pd.cs.length)))))
theorem pod3L_head (p : P3) : pod3L p = head3L p ++ p.pd.cs.flatMap ct3L := by
  rw [pod3L, head3L, pd3L]; simp only [List.append_assoc]
theorem head3_parts (X : ByteArray) (p : P3) : X ++ tx (txtL p.file) ++ tx (txtL p.pd.name) ++ tx (txtL p.pd.ns) ++ beS 1 p.pd.restart.toNat ++ beS 2 p.pd.grace.toNat ++ beS 1 p.pd.host.toNat ++ beS 1 p.pd.cs.length = X ++ tx (head3L p) := by
  apply list_ext
  simp only [app_list, tx_toList, beS_tx, head3L, List.append_assoc]
/-- The bytes of a container, laid one behind another. -/
theorem ct3_parts (Y : ByteArray) (c : Ct) :
    (((Y ++ tx (txtL c.name) ++ tx (txtL c.image) ++ beS 1 c.cmd.length) ++ tx (c.cmd.flatMap txtL) ++ beS 1 c.ports.length) ++ tx (c.ports.flatMap portL) ++ beS 4 c.cpu.toNat ++ beS 4 c.mem.toNat ++ beS 1 c.env.length) ++ tx (c.env.flatMap envL) = Y ++ tx (ct3L c) := by
  apply list_ext
  simp only [app_list, tx_toList, beS_tx, ct3L, List.append_assoc]
theorem port_parts (Z : ByteArray) (p : Int × Int) : Z ++ beS 2 p.1.toNat ++ beS 1 p.2.toNat = Z ++ tx (portL p) := by
  apply list_ext
  simp only [app_list, tx_toList, beS_tx, portL, List.append_assoc]
theorem env_parts (Z : ByteArray) (v : ByteArray × ByteArray) : Z ++ tx (txtL v.1) ++ tx (txtL v.2) = Z ++ tx (envL v) := by
  apply list_ext
  simp only [app_list, tx_toList, envL, List.append_assoc]
end Go.Proofs.YtldncgelghcjeaaGreatDoor.K
