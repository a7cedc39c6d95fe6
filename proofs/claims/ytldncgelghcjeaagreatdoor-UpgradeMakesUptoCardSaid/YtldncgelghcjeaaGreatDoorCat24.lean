/-
  A container with its defaults, by package spec: walked.
  A pod with its defaults, by package spec: what stands between the steps.
  A pod with its defaults, by package spec: walked (printed by a script: an empty namespace, or not).
-/
import Derived.Test.YtldncgelghcjeaaGreatDoorCat23
import Derived.Deep.Cut
set_option linter.unusedSimpArgs false
set_option linter.unusedVariables false
namespace Go.Proofs.YtldncgelghcjeaaGreatDoor
open Go.ChangeShapes Go.WideShapes Go.ChangeAt Go.RowKit
attribute [local go_sem ↓] Go.wp_at_zero Go.wp_at_succ

theorem tset_same (l : List ByteArray) (k : Nat) (h : k < l.length) : (tcells l).set k (.string l[k]) = tcells l := by
  refine set_same ?_
  have := flat_get tcell 1 (fun _ => rfl) l k h 0 (by omega)
  rw [Nat.mul_one, Nat.add_zero] at this
  exact this
theorem eset_same (l : List (ByteArray × ByteArray)) (k : Nat) (h : k < l.length) : ((ecells l).set (k * 2) (.string l[k].1)).set (k * 2 + 1) (.string l[k].2) = ecells l := by
  have h0 : (ecells l)[k * 2]? = some (.string l[k].1) := flat_get ecell 2 (fun _ => rfl) l k h 0 (by omega)
  have h1 : (ecells l)[k * 2 + 1]? = some (.string l[k].2) := flat_get ecell 2 (fun _ => rfl) l k h 1 (by omega)
  rw [set_same h0, set_same h1]
theorem own_ne' {W : World} {B B' : Nat} {e e' k k' n n' : Nat} {v v' : Value} {xs xs' : List Value} (h : W.ownsRow B e k v n xs) (h' : W.ownsRow B' e' k' v' n' xs') (hne : e ≠ e') : v.ownBlock = none ∨ v.ownBlock ≠ v'.ownBlock := by
  rcases h.2 with ⟨rfl, _⟩ | ⟨g, cap, cur, rfl, _, hg, _⟩
  · exact .inl rfl
  · refine .inr fun e2 => ?_
    rcases h'.2 with ⟨rfl, _⟩ | ⟨g', cap', cur', rfl, _, hg', _⟩
    · cases e2
    · have : g = g' := by simpa [Value.ownBlock] using e2
      subst this
      rw [hg] at hg'
      cases hg'
      exact hne rfl
set_option maxRecDepth 100000 in
set_option maxHeartbeats 4000000 in
theorem wd_any (m : CM) (w : World) (hm : m.In w) (lm : m.c.Low) :
    Calls Tryz.prog 118 #[m.val] w fun e w' => ∃ n : CM, e = .returned n.val ∧ n.c = defC m.c ∧ QIn w' w.heap.size n ∧ Fresh w w' := by
  obtain ⟨⟨s0, s1, lc, lp, n4, n5, le⟩, ca, cc, pa, pc, ea, ec⟩ := m
  have HRC := Lib.hid hm.cmd
  have HRP := Lib.hid hm.ports
  have HRE := Lib.hid hm.env
  have HL : Hid (lc.length ≤ 1048576 ∧ lp.length ≤ 1048576 ∧ le.length ≤ 1048576) := ⟨lm.lc, lm.lp, lm.le⟩
  have HCS : Hid (∀ s ∈ lc, s.size ≤ 1048576) := lm.cmd
  have HES : Hid (∀ v ∈ le, v.1.size ≤ 1048576 ∧ v.2.size ≤ 1048576) := lm.env
  have HS0 : Hid (s0.size ≤ 1048576 ∧ s1.size ≤ 1048576) := ⟨lm.name, lm.image⟩
  have HK0 := Lib.hid (fun W => clone_any s0 W (by have := HS0.out.1; omega))
  have HK1 := Lib.hid (fun W => clone_any s1 W (by have := HS0.out.2; omega))
  have HCT := Lib.hid (fun W (f : Fresh w W) => cloneT_any lc ca cc W (HRC.out.move f) HL.out.1)
  have HCP := Lib.hid (fun W (f : Fresh w W) => cloneP_any lp pa pc W (HRP.out.move f) HL.out.2.1)
  have HCE := Lib.hid (fun W (f : Fresh w W) => cloneE_any le ea ec W (HRE.out.move f) HL.out.2.2)
  have HO4 := Lib.hid (fun W => orElse_any n4 100 W)
  have HO5 := Lib.hid (fun W => orElse_any n5 64 W)
  have HD : Hid (∀ a b c d e f : _, (CM.mk (defC ⟨s0, s1, lc, lp, n4, n5, le⟩) a b c d e f).val = .agg #[.string s0, .string s1, .slice a lc.length b, .slice c lp.length d, .int .i64 (if n4 = 0 then 100 else n4), .int .i64 (if n5 = 0 then 64 else n5), .slice e le.length f]) := fun _ _ _ _ _ _ => rfl
  dsimp only [CM.val] at *
  clear hm lm HRC HRP HRE HS0
  generalize (if n4 = 0 then (100 : Int) else n4) = m4 at *
  generalize (if n5 = 0 then (64 : Int) else n5) = m5 at *
  have hst := WDS.start (w := w) (s0 := s0) (s1 := s1) (v2 := .slice ca lc.length cc) (v3 := .slice pa lp.length pc) (n4 := n4) (n5 := n5) (v6 := .slice ea le.length ec)
  have HST := Lib.hid hst
  clear hst
  go_enter Tryz.func118, Tryz.ntmps118
  go_wp2_with (fail)
  generalize (w.alloc (.cells #[.string s0, .string s1, .slice ca lc.length cc, .slice pa lp.length pc, .int .i64 n4, .int .i64 n5, .slice ea le.length ec] 126)).alloc (.cells #[.string ⟨#[]⟩, .string ⟨#[]⟩, .slice none 0 0, .slice none 0 0, .int .i64 0, .int .i64 0, .slice none 0 0] 126) = W0 at *
  obtain ⟨b, hb⟩ : ∃ b, b = w.heap.size := ⟨_, rfl⟩
  have HBW := Lib.hid hb
  rw [← hb] at HST ⊢
  clear hb
  refine (HK0.out W0).mono ?_
  rintro e W1 ⟨rfl, hf⟩
  have HS1 := Lib.hid (HST.out.go hf)
  clear hf HST
  obtain ⟨⟨q0, q1, q2, q3, q4, q5, q6⟩, fz⟩ := HS1.out.cells
  have f0 := fz 0
  clear fz q2 q3 q4 q5 q6
  go_wp2_with (fail)
  have HS2 := Lib.hid (HS1.out.set0 s0)
  generalize W1.setCell ⟨b, 0, none⟩ (.string s0) = W2 at *
  clear HS1 q0 q1 f0
  refine (HK1.out W2).mono ?_
  rintro e W3 ⟨rfl, hf⟩
  have HS3 := Lib.hid (HS2.out.go hf)
  clear hf HS2
  obtain ⟨⟨q0, q1, q2, q3, q4, q5, q6⟩, fz⟩ := HS3.out.cells
  have f0 := fz 1
  clear fz q0 q3 q4 q5 q6
  go_wp2_with (fail)
  have HS4 := Lib.hid (HS3.out.set1 s1)
  generalize W3.setCell ⟨b, 1, none⟩ (.string s1) = W4 at *
  clear HS3 q1 q2 f0
  refine (HCT.out W4 HS4.out.fr).mono ?_
  rintro e W5 ⟨ca2, cc2, rfl, hown, hf⟩
  have HS5 := Lib.hid (HS4.out.go hf)
  have HOC := Lib.hid (World.ownsRow.mono hown HS4.out.sz)
  clear hf HS4 hown
  obtain ⟨⟨q0, q1, q2, q3, q4, q5, q6⟩, fz⟩ := HS5.out.cells
  have f0 := fz 2
  clear fz q0 q1 q3 q4 q5 q6
  go_wp2_with (fail)
  have HS6 := Lib.hid (HS5.out.set2 (.slice ca2 lc.length cc2))
  have HO6 := Lib.hid (own_set' (p := ⟨b, 2, none⟩) HOC.out (by show b < b + 2; omega) (.slice ca2 lc.length cc2))
  dsimp only at HO6
  generalize W5.setCell ⟨b, 2, none⟩ (.slice ca2 lc.length cc2) = W6 at *
  clear HS5 q2 f0 HOC
  go_loopw [22] (fun a22 wr => ∃ (k : Nat), a22 = .int .i64 (k : Int) ∧ k ≤ lc.length ∧ Hid (WDS w wr b s0 s1 (.slice ca2 lc.length cc2) (.slice pa lp.length pc) n4 n5 (.slice ea le.length ec)) ∧ Hid (wr.ownsRow (b + 2) 9 1 (.slice ca2 lc.length cc2) lc.length (tcells lc))) (fun a22 _ => lc.length - (intOf a22).toNat)
  case atStart => exact ⟨0, rfl, Nat.zero_le _, HS6.out, HO6.out⟩
  case round =>
    obtain ⟨k, rfl, hk, HS, HO⟩ := hrel
    have hb1 := HL.out.1
    by_cases hlt : k < lc.length
    · obtain ⟨g, rfl, hgb, hnc⟩ := own_form HO.out hlt
      have hcell : wr.cell? ⟨g, k, none⟩ = some (.string lc[k]) := by
        rw [World.ownsRow.cellAt HO.out k (by omega)]
        have := flat_get tcell 1 (fun _ => rfl) lc k hlt 0 (by omega)
        rw [Nat.mul_one, Nat.add_zero] at this
        exact this
      have HFZ : Hid (∀ W, Fresh wr W → W.cell? ⟨g, k, none⟩ = some (.string lc[k]) ∧ W.frozen? ⟨g, k, none⟩ = false ∧ W.cell? ⟨b, 2, none⟩ = some (.slice (some ⟨g, 0, none⟩) lc.length cc2)) := fun W f =>
        ⟨f.cell hcell, World.ownsRow.frozenAt (own_fresh' HO.out f) k, f.cell HS.out.cells.1.2.2.1⟩
      have HSET := Lib.hid (tset_same lc k hlt)
      have HKS := Lib.hid (fun W => clone_any lc[k] W (by have := HCS.out _ (List.getElem_mem hlt); omega))
      have q2 := HS.out.cells.1.2.2.1
      have i1 : (0 : Int) ≤ (k : Int) := by omega
      have i2 : (k : Int) < (lc.length : Int) := by omega
      generalize lc[k] = x at *
      have hne : ¬ g = b := by omega
      have HKD := Lib.hid (HKS.out wr.drew)
      have HST : Hid (∀ W, Fresh wr W → WDS w (W.setCell ⟨g, k, none⟩ (.string x)) b s0 s1 (.slice (some ⟨g, 0, none⟩) lc.length cc2) (.slice pa lp.length pc) n4 n5 (.slice ea le.length ec) ∧ (W.setCell ⟨g, k, none⟩ (.string x)).ownsRow (b + 2) 9 1 (.slice (some ⟨g, 0, none⟩) lc.length cc2) lc.length (tcells lc)) := fun W f =>
        ⟨(HS.out.go f).off (i := k) hgb _, by
          have := (World.ownsRow.stored (own_fresh' HO.out f) k (.string x)).1
          rw [HSET.out] at this
          exact this⟩
      go_wp2_with (fail)
      all_goals try (exfalso; omega)
      go_region_held3 (fun w' => w'.cell? ⟨b, 2, none⟩ = some (.slice (some ⟨g, 0, none⟩) lc.length cc2)) (go_keep)
        (first | (go_at_call 99; (with_reducible refine HKD.out.mono ?_); rintro e Wc ⟨rfl, hf⟩; have HFc := Lib.hid ((Fresh.refl wr).drew.trans hf); obtain ⟨k0, k1, k2⟩ := HFZ.out _ HFc.out; clear hf))
      go_wp2
      all_goals try (exfalso; omega)
      go_roundw
      case rel => exact ⟨k + 1, by simp, by omega, (HST.out _ HFc.out).1, (HST.out _ HFc.out).2⟩
      case measure => simp [intOf]; omega
    · obtain rfl : k = lc.length := by omega
      obtain ⟨⟨q0, q1, q2, q3, q4, q5, q6⟩, _⟩ := HS.out.cells
      clear q0 q1 q2 q4 q5 q6
      go_wp2_with (fail)
      all_goals try (exfalso; omega)
      clear q3 HS6 HO6
      obtain ⟨wr0, hw0⟩ : ∃ wr0, wr0 = wr := ⟨_, rfl⟩
      subst hw0
      refine (HCP.out wr0 HS.out.fr).mono ?_
      rintro e V1 ⟨pa2, pc2, rfl, hown, hf⟩
      have HS1 := Lib.hid (HS.out.go hf)
      have HO1 := Lib.hid (own_fresh' HO.out hf)
      have HP1 := Lib.hid (World.ownsRow.mono hown HS.out.sz)
      clear hf HS HO hown
      obtain ⟨⟨q0, q1, q2, q3, q4, q5, q6⟩, fz⟩ := HS1.out.cells
      have f0 := fz 3
      clear fz q0 q1 q2 q5 q6
      go_wp2_with (fail)
      have HS2 := Lib.hid (HS1.out.set3 (.slice pa2 lp.length pc2))
      have HO2 := Lib.hid (own_set' (p := ⟨b, 3, none⟩) HO1.out (by show b < b + 2; omega) (.slice pa2 lp.length pc2))
      have HP2 := Lib.hid (own_set' (p := ⟨b, 3, none⟩) HP1.out (by show b < b + 2; omega) (.slice pa2 lp.length pc2))
      dsimp only at HO2 HP2
      generalize V1.setCell ⟨b, 3, none⟩ (.slice pa2 lp.length pc2) = V2 at *
      clear HS1 HO1 HP1 q3 q4 f0
      refine (HO4.out V2).mono ?_
      rintro e V2' ⟨rfl, rfl⟩
      obtain ⟨⟨q0, q1, q2, q3, q4, q5, q6⟩, fz⟩ := HS2.out.cells
      have f0 := fz 4
      clear fz q0 q1 q2 q3 q6
      go_wp2_with (fail)
      have HS3 := Lib.hid (HS2.out.set4 m4)
      have HO3 := Lib.hid (own_set' (p := ⟨b, 4, none⟩) HO2.out (by show b < b + 2; omega) (.int .i64 m4))
      have HP3 := Lib.hid (own_set' (p := ⟨b, 4, none⟩) HP2.out (by show b < b + 2; omega) (.int .i64 m4))
      dsimp only at HO3 HP3
      generalize V2.setCell ⟨b, 4, none⟩ (.int .i64 m4) = V3 at *
      clear HS2 HO2 HP2 q4 q5 f0
      refine (HO5.out V3).mono ?_
      rintro e V3' ⟨rfl, rfl⟩
      obtain ⟨⟨q0, q1, q2, q3, q4, q5, q6⟩, fz⟩ := HS3.out.cells
      have f0 := fz 5
      clear fz q0 q1 q2 q3 q4
      go_wp2_with (fail)
      have HS4 := Lib.hid (HS3.out.set5 m5)
      have HO4 := Lib.hid (own_set' (p := ⟨b, 5, none⟩) HO3.out (by show b < b + 2; omega) (.int .i64 m5))
      have HP4 := Lib.hid (own_set' (p := ⟨b, 5, none⟩) HP3.out (by show b < b + 2; omega) (.int .i64 m5))
      dsimp only at HO4 HP4
      generalize V3.setCell ⟨b, 5, none⟩ (.int .i64 m5) = V4 at *
      clear HS3 HO3 HP3 q5 q6 f0
      refine (HCE.out V4 HS4.out.fr).mono ?_
      rintro e V5 ⟨ea2, ec2, rfl, hown, hf⟩
      have HS5 := Lib.hid (HS4.out.go hf)
      have HO5 := Lib.hid (own_fresh' HO4.out hf)
      have HP5 := Lib.hid (own_fresh' HP4.out hf)
      have HE5 := Lib.hid (World.ownsRow.mono hown HS4.out.sz)
      clear hf HS4 HO4 HP4 hown
      obtain ⟨⟨q0, q1, q2, q3, q4, q5, q6⟩, fz⟩ := HS5.out.cells
      have f0 := fz 6
      clear fz q0 q1 q2 q3 q4 q5
      go_wp2_with (fail)
      have HS6 := Lib.hid (HS5.out.set6 (.slice ea2 le.length ec2))
      have HO6 := Lib.hid (own_set' (p := ⟨b, 6, none⟩) HO5.out (by show b < b + 2; omega) (.slice ea2 le.length ec2))
      have HP6 := Lib.hid (own_set' (p := ⟨b, 6, none⟩) HP5.out (by show b < b + 2; omega) (.slice ea2 le.length ec2))
      have HE6 := Lib.hid (own_set' (p := ⟨b, 6, none⟩) HE5.out (by show b < b + 2; omega) (.slice ea2 le.length ec2))
      dsimp only at HO6 HP6 HE6
      generalize V5.setCell ⟨b, 6, none⟩ (.slice ea2 le.length ec2) = V6 at *
      clear HS5 HO5 HP5 HE5 q6 f0
      obtain ⟨⟨q0, q1, q2, q3, q4, q5, q6⟩, fz⟩ := HS6.out.cells
      clear fz q0 q1 q2 q3 q4 q5
      have hb2 := HL.out.2.2
      go_loopw [53] (fun a53 wr => ∃ (k : Nat), a53 = .int .i64 (k : Int) ∧ k ≤ le.length ∧ Hid (WDS w wr b s0 s1 (.slice ca2 lc.length cc2) (.slice pa2 lp.length pc2) m4 m5 (.slice ea2 le.length ec2)) ∧ Hid (wr.ownsRow (b + 2) 9 1 (.slice ca2 lc.length cc2) lc.length (tcells lc)) ∧ Hid (wr.ownsRow (b + 2) 129 2 (.slice pa2 lp.length pc2) lp.length (pcells lp)) ∧ Hid (wr.ownsRow (b + 2) 130 2 (.slice ea2 le.length ec2) le.length (ecells le))) (fun a53 _ => le.length - (intOf a53).toNat)
      case atStart => exact ⟨0, rfl, Nat.zero_le _, HS6.out, HO6.out, HP6.out, HE6.out⟩
      case round =>
        obtain ⟨k, rfl, hk, HS, HO, HP, HE⟩ := hrel
        by_cases hlt : k < le.length
        · obtain ⟨g, rfl, hgb, hnc⟩ := own_form HE.out hlt
          have hc0 : wr.cell? ⟨g, k * 2, none⟩ = some (.string le[k].1) := by
            rw [World.ownsRow.cellAt HE.out (k * 2) (by omega)]
            exact flat_get ecell 2 (fun _ => rfl) le k hlt 0 (by omega)
          have hc1 : wr.cell? ⟨g, k * 2 + 1, none⟩ = some (.string le[k].2) := by
            rw [World.ownsRow.cellAt HE.out (k * 2 + 1) (by omega)]
            exact flat_get ecell 2 (fun _ => rfl) le k hlt 1 (by omega)
          have HSET := Lib.hid (eset_same le k hlt)
          have HKS := Lib.hid (fun W => clone_any le[k].1 W (by have := (HES.out _ (List.getElem_mem hlt)).1; omega))
          have HKT := Lib.hid (fun W => clone_any le[k].2 W (by have := (HES.out _ (List.getElem_mem hlt)).2; omega))
          have hsw : le[k].1.size ≤ 1048576 ∧ le[k].2.size ≤ 1048576 := HES.out _ (List.getElem_mem hlt)
          clear hsw
          generalize le[k].1 = x at *
          generalize le[k].2 = y at *
          have HZ : Hid (wr.heap.size ≠ b ∧ wr.heap.size ≠ g ∧ g < wr.heap.size) := by
            have h1 := HS.out.sz
            have h2 := World.block_lt_of_cell? wr _ hc0
            exact ⟨by omega, by show wr.heap.size ≠ g; have : g < wr.heap.size := h2; omega, h2⟩
          have HAT := Lib.hid (at_new wr (.cells #[.string x, .string y] 130))
          have HFA := Lib.hid ((Fresh.refl wr).alloc (.cells #[.string x, .string y] 130))
          have q6 := HS.out.cells.1.2.2.2.2.2.2
          have i1 : (0 : Int) ≤ (k : Int) := by omega
          have i2 : (k : Int) < (le.length : Int) := by omega
          go_wp2_with (fail)
          all_goals try (exfalso; omega)
          have HWA : Hid (∀ W, Fresh (wr.alloc (.cells #[.string x, .string y] 130)) W → W.cell? ⟨g, k * 2, none⟩ = some (.string x) ∧ W.cell? ⟨g, k * 2 + 1, none⟩ = some (.string y) ∧ W.frozen? ⟨g, k * 2, none⟩ = false ∧ W.frozen? ⟨g, k * 2 + 1, none⟩ = false ∧ W.cell? ⟨b, 6, none⟩ = some (.slice (some ⟨g, 0, none⟩) le.length ec2) ∧ W.cell? ⟨wr.heap.size, 0, none⟩ = some (.string x) ∧ W.cell? ⟨wr.heap.size, 1, none⟩ = some (.string y)) := fun W f =>
            ⟨(HFA.out.trans f).cell hc0, (HFA.out.trans f).cell hc1, World.ownsRow.frozenAt (own_fresh' HE.out (HFA.out.trans f)) _, World.ownsRow.frozenAt (own_fresh' HE.out (HFA.out.trans f)) _, (HFA.out.trans f).cell q6, f.cell (cell_of_at HAT.out rfl), f.cell (cell_of_at HAT.out rfl)⟩
          have HST : Hid (∀ W, Fresh (wr.alloc (.cells #[.string x, .string y] 130)) W → WDS w ((W.setCell ⟨g, k * 2, none⟩ (.string x)).setCell ⟨g, k * 2 + 1, none⟩ (.string y)) b s0 s1 (.slice ca2 lc.length cc2) (.slice pa2 lp.length pc2) m4 m5 (.slice (some ⟨g, 0, none⟩) le.length ec2)) := fun W f =>
            ((HS.out.go (HFA.out.trans f)).off (i := k * 2) hgb _).off (i := k * 2 + 1) hgb _
          have HROWS : Hid (∀ W, Fresh (wr.alloc (.cells #[.string x, .string y] 130)) W → ((W.setCell ⟨g, k * 2, none⟩ (.string x)).setCell ⟨g, k * 2 + 1, none⟩ (.string y)).ownsRow (b + 2) 9 1 (.slice ca2 lc.length cc2) lc.length (tcells lc) ∧ ((W.setCell ⟨g, k * 2, none⟩ (.string x)).setCell ⟨g, k * 2 + 1, none⟩ (.string y)).ownsRow (b + 2) 129 2 (.slice pa2 lp.length pc2) lp.length (pcells lp) ∧ ((W.setCell ⟨g, k * 2, none⟩ (.string x)).setCell ⟨g, k * 2 + 1, none⟩ (.string y)).ownsRow (b + 2) 130 2 (.slice (some ⟨g, 0, none⟩) le.length ec2) le.length (ecells le)) := fun W f => by
            have e1 := own_fresh' HE.out (HFA.out.trans f)
            have o1 := own_fresh' HO.out (HFA.out.trans f)
            have p1 := own_fresh' HP.out (HFA.out.trans f)
            have s1 := World.ownsRow.stored e1 (k * 2) (.string x)
            have o2 := World.ownsRow.kept o1 s1.2 (own_ne' o1 e1 (by decide))
            have p2 := World.ownsRow.kept p1 s1.2 (own_ne' p1 e1 (by decide))
            have s2 := World.ownsRow.stored s1.1 (k * 2 + 1) (.string y)
            have o3 := World.ownsRow.kept o2 s2.2 (own_ne' o2 s1.1 (by decide))
            have p3 := World.ownsRow.kept p2 s2.2 (own_ne' p2 s1.1 (by decide))
            refine ⟨o3, p3, ?_⟩
            have := s2.1
            rw [HSET.out] at this
            exact this
          have hz := HZ.out
          obtain ⟨hz1, hz2, hz3⟩ := hz
          have hne : ¬ g = b := by omega
          obtain ⟨r0, r1, r2, r3, r4, r5, r6⟩ := HWA.out _ (Fresh.refl _)
          generalize hWW : wr.alloc (.cells #[.string x, .string y] 130) = WW at *
          clear hWW
          generalize wr.heap.size = z at *
          clear q6 hc0 hc1
          have hne2 : ¬ b = g := fun e => hne e.symm
          have hz4 : ¬ z = b := hz1
          have hz5 : ¬ z = g := hz2
          have hz6 : ¬ g = z := fun e => hz2 e.symm
          go_region_held3 (fun w' => w'.cell? ⟨b, 6, none⟩ = some (.slice (some ⟨g, 0, none⟩) le.length ec2) ∧ w'.cell? ⟨z, 0, none⟩ = some (.string x) ∧ w'.cell? ⟨z, 1, none⟩ = some (.string y)) (go_keep)
            (first | (go_at_call 99; (with_reducible refine (HKS.out _).mono ?_); rintro e V1 ⟨rfl, hf⟩; have HG1 := Lib.hid ((Fresh.refl WW).drew.trans hf); obtain ⟨k0, k1, k2, k3, k4, k5, k6⟩ := HWA.out _ HG1.out; clear hf) | (go_at_call 99; (with_reducible refine (HKT.out _).mono ?_); rintro e V2 ⟨rfl, hf⟩; have HG2 := Lib.hid (HG1.out.trans hf); obtain ⟨j0, j1, j2, j3, j4, j5, j6⟩ := HWA.out _ HG2.out; clear hf))
          clear r0 r1 r2 r3 r4 r5 r6
          try clear k0 k1 k2 k3 k4 k5 k6
          try clear j0 j1 j2 j3 j4 j5 j6
          go_wp2
          all_goals try (exfalso; omega)
          go_roundw
          case rel => exact ⟨k + 1, by simp, by omega, HST.out _ HG2.out, (HROWS.out _ HG2.out).1, (HROWS.out _ HG2.out).2.1, (HROWS.out _ HG2.out).2.2⟩
          case measure => simp [intOf]; omega
        · obtain rfl : k = le.length := by omega
          obtain ⟨⟨q0, q1, q2, q3, q4, q5, q6⟩, fz⟩ := HS.out.cells
          obtain ⟨⟨z0, z1, z2, z3, z4, z5, z6⟩, fy⟩ := Box7.cells (show Box7 126 wr (b + 1) ⟨#[]⟩ ⟨#[]⟩ (.slice none 0 0) (.slice none 0 0) 0 0 (.slice none 0 0) from HS.out.at2)
          have y0 := fy 0
          have y1 := fy 1
          have y2 := fy 2
          have y3 := fy 3
          have y4 := fy 4
          have y5 := fy 5
          have y6 := fy 6
          clear fz fy
          go_wp2
          all_goals try (exfalso; omega)
          have hq : ∀ {B k n : Nat} {t : TypeId} {v : Value} {xs : List Value}, wr.ownsRow (b + 2) t k v n xs → ((((((((wr.setCell ⟨b + 1, 0, none⟩ (.string s0)).setCell ⟨b + 1, 1, none⟩ (.string s1)).setCell ⟨b + 1, 2, none⟩ (.slice ca2 lc.length cc2)).setCell ⟨b + 1, 3, none⟩ (.slice pa2 lp.length pc2)).setCell ⟨b + 1, 4, none⟩ (.int .i64 m4)).setCell ⟨b + 1, 5, none⟩ (.int .i64 m5)).setCell ⟨b + 1, 6, none⟩ (.slice ea2 le.length ec2))).ownsRow (b + 2) t k v n xs := fun h => by
            have l1 : ∀ i, (⟨b + 1, i, none⟩ : Addr).block < b + 2 := fun i => Nat.lt_succ_self (b + 1)
            exact own_set' (p := ⟨b + 1, 6, none⟩) (own_set' (p := ⟨b + 1, 5, none⟩) (own_set' (p := ⟨b + 1, 4, none⟩) (own_set' (p := ⟨b + 1, 3, none⟩) (own_set' (p := ⟨b + 1, 2, none⟩) (own_set' (p := ⟨b + 1, 1, none⟩) (own_set' (p := ⟨b + 1, 0, none⟩) h (l1 0) _) (l1 1) _) (l1 2) _) (l1 3) _) (l1 4) _) (l1 5) _) (l1 6) _
          refine bodyPost_ret (v := .agg #[.string s0, .string s1, .slice ca2 lc.length cc2, .slice pa2 lp.length pc2, .int .i64 m4, .int .i64 m5, .slice ea2 le.length ec2]) (by simp [results, Tryz.f118, go_sem, *]) rfl ⟨⟨defC ⟨s0, s1, lc, lp, n4, n5, le⟩, ca2, cc2, pa2, pc2, ea2, ec2⟩, ?_, rfl, ⟨?_, ?_, ?_⟩, ?_⟩
          · rw [HD.out]
          · exact World.ownsRow.mono (hq (B := 0) HO.out) (by have := HBW.out; omega)
          · exact World.ownsRow.mono (hq (B := 0) HP.out) (by have := HBW.out; omega)
          · exact World.ownsRow.mono (hq (B := 0) HE.out) (by have := HBW.out; omega)
          · repeat (refine Fresh.setCell ?_ (by have := HBW.out; simp; omega) _)
            exact HS.out.fr
end Go.Proofs.YtldncgelghcjeaaGreatDoor
namespace Go.Proofs.YtldncgelghcjeaaGreatDoor
open Go.ChangeShapes Go.WideShapes Go.ChangeAt Go.RowKit

theorem QIn.mono {W : World} {B B' : Nat} {m : CM} (h : QIn W B m) (hb : B' ≤ B) : QIn W B' m := ⟨World.ownsRow.mono h.cmd hb, World.ownsRow.mono h.ports hb, World.ownsRow.mono h.env hb⟩
theorem QIn.fresh {W W' : World} {B : Nat} {m : CM} (h : QIn W B m) (f : Fresh W W') : QIn W' B m := ⟨own_fresh' h.cmd f, own_fresh' h.ports f, own_fresh' h.env f⟩
theorem QIn.set {W : World} {B : Nat} {m : CM} (h : QIn W B m) {p : Addr} (hp : p.block < B) (u : Value) : QIn (W.setCell ⟨p.block, p.off, none⟩ u) B m := ⟨own_set' h.cmd hp u, own_set' h.ports hp u, own_set' h.env hp u⟩
theorem QIn.stored {W : World} {B B' g n cap : Nat} {m : CM} {xs : List Value} (h : QIn W B m) (hr : W.ownsRow B' 126 7 (.slice (some ⟨g, 0, none⟩) n cap) n xs) (j : Nat) (u : Value) : QIn (W.setCell ⟨g, j, none⟩ u) B m :=
  ⟨World.ownsRow.kept h.cmd (World.ownsRow.stored hr j u).2 (own_ne' h.cmd hr (by decide)), World.ownsRow.kept h.ports (World.ownsRow.stored hr j u).2 (own_ne' h.ports hr (by decide)), World.ownsRow.kept h.env (World.ownsRow.stored hr j u).2 (own_ne' h.env hr (by decide))⟩
theorem QIn.inn {W : World} {B : Nat} {m : CM} (h : QIn W B m) : m.In W := ⟨RowAt.owns h.cmd, RowAt.owns h.ports, RowAt.owns h.env, own_le h.ports⟩
/-- A pod whose memory the call owns, from block B on. -/
structure QAt (W : World) (B : Nat) (q : PM) : Prop where
  row : W.ownsRow B 126 7 (.slice q.a q.cs.length q.cap) q.cs.length (ccells q.cs)
  ins : ∀ m ∈ q.cs, QIn W B m
theorem QAt.at {W : World} {B : Nat} {q : PM} (h : QAt W B q) : q.At W := ⟨RowAt.owns h.row, fun m hm => (h.ins m hm).inn, own_le h.row⟩
theorem QAt.fresh {W W' : World} {B : Nat} {q : PM} (h : QAt W B q) (f : Fresh W W') : QAt W' B q := ⟨own_fresh' h.row f, fun m hm => (h.ins m hm).fresh f⟩
theorem QAt.mono {W : World} {B B' : Nat} {q : PM} (h : QAt W B q) (hb : B' ≤ B) : QAt W B' q := ⟨World.ownsRow.mono h.row hb, fun m hm => (h.ins m hm).mono hb⟩
theorem ccells_set7 : ∀ (L : List CM) (k : Nat) (n : CM), k < L.length → (((((((ccells L).set (k * 7) (.string n.c.name)).set (k * 7 + 1) (.string n.c.image)).set (k * 7 + 2) (.slice n.ca n.c.cmd.length n.cc)).set (k * 7 + 3) (.slice n.pa n.c.ports.length n.pc)).set (k * 7 + 4) (.int .i64 n.c.cpu)).set (k * 7 + 5) (.int .i64 n.c.mem)).set (k * 7 + 6) (.slice n.ea n.c.env.length n.ec) = ccells (L.set k n)
  | [], k, n, h => absurd h (Nat.not_lt_zero _)
  | a :: r, 0, n, _ => by simp [ccells, CM.cells]
  | a :: r, k + 1, n, h => by
    have ih := ccells_set7 r k n (by simpa using h)
    have e : ∀ i, (k + 1) * 7 + i = a.cells.length + (k * 7 + i) := fun i => by show (k + 1) * 7 + i = 7 + (k * 7 + i); omega
    have e0 : (k + 1) * 7 = a.cells.length + k * 7 := by show (k + 1) * 7 = 7 + k * 7; omega
    have st : ∀ (l : List Value) (j : Nat) (x : Value), (a.cells ++ l).set (a.cells.length + j) x = a.cells ++ l.set j x := fun l j x => by
      rw [List.set_append_right _ _ (Nat.le_add_right _ _), Nat.add_sub_cancel_left]
    rw [show ccells (a :: r) = a.cells ++ ccells r from List.flatMap_cons, e, e, e, e, e, e, e0, st, st, st, st, st, st, st, ih]
    rfl
theorem mid_set {D R : List CM} {m n : CM} {k : Nat} (h : D.length = k) : (D ++ m :: R).set k n = (D ++ [n]) ++ R := by
  rw [List.set_append_right _ _ (by omega), h, Nat.sub_self, List.set_cons_zero]
  simp
/-- Both boxes, between the steps. -/
structure PDS (w W : World) (b : Nat) (s0 s1 : ByteArray) (n2 n3 : Int) (b4 : Bool) (v5 : Value) : Prop where
  at1 : W.heap[b]? = some (.cells #[.string s0, .string s1, .int .i64 n2, .int .i64 n3, .bool b4, v5] 41)
  at2 : W.heap[b + 1]? = some (.cells #[.string ⟨#[]⟩, .string ⟨#[]⟩, .int .i64 0, .int .i64 0, .bool false, .slice none 0 0] 41)
  fr : Fresh w W
  sz : b + 2 ≤ W.heap.size
  bw : w.heap.size = b
section
variable {w W W' : World} {b : Nat} {s0 s1 : ByteArray} {n2 n3 : Int} {b4 : Bool} {v5 : Value}
theorem PDS.start : PDS w ((w.alloc (.cells #[.string s0, .string s1, .int .i64 n2, .int .i64 n3, .bool b4, v5] 41)).alloc (.cells #[.string ⟨#[]⟩, .string ⟨#[]⟩, .int .i64 0, .int .i64 0, .bool false, .slice none 0 0] 41)) w.heap.size s0 s1 n2 n3 b4 v5 where
  at1 := at_alloc (at_new _ _)
  at2 := by have := at_new (w.alloc (.cells #[.string s0, .string s1, .int .i64 n2, .int .i64 n3, .bool b4, v5] 41)) (.cells #[.string ⟨#[]⟩, .string ⟨#[]⟩, .int .i64 0, .int .i64 0, .bool false, .slice none 0 0] 41); rw [World.size_alloc] at this; exact this
  fr := ((Fresh.refl w).alloc _).alloc _
  sz := by simp
  bw := rfl
theorem PDS.go (h : PDS w W b s0 s1 n2 n3 b4 v5) (f : Fresh W W') : PDS w W' b s0 s1 n2 n3 b4 v5 := ⟨f.at h.at1, f.at h.at2, h.fr.trans f, Nat.le_trans h.sz f.size, h.bw⟩
theorem PDS.off (h : PDS w W b s0 s1 n2 n3 b4 v5) {g i : Nat} (hg : b + 2 ≤ g) (u : Value) : PDS w (W.setCell ⟨g, i, none⟩ u) b s0 s1 n2 n3 b4 v5 :=
  ⟨at_off' h.at1 (by omega) u, at_off' h.at2 (by omega) u, h.fr.setCell (p := ⟨g, i, none⟩) (by have := h.bw; show w.heap.size ≤ g; omega) u, by simpa using h.sz, h.bw⟩
theorem PDS.set0 (h : PDS w W b s0 s1 n2 n3 b4 v5) (s : ByteArray) : PDS w (W.setCell ⟨b, 0, none⟩ (.string s)) b s s1 n2 n3 b4 v5 :=
  ⟨at_set h.at1 0 _, at_off' h.at2 (by omega) _, h.fr.setCell (p := ⟨b, 0, none⟩) (by have := h.bw; show w.heap.size ≤ b; omega) _, by simpa using h.sz, h.bw⟩
theorem PDS.set1 (h : PDS w W b s0 s1 n2 n3 b4 v5) (s : ByteArray) : PDS w (W.setCell ⟨b, 1, none⟩ (.string s)) b s0 s n2 n3 b4 v5 :=
  ⟨at_set h.at1 1 _, at_off' h.at2 (by omega) _, h.fr.setCell (p := ⟨b, 1, none⟩) (by have := h.bw; show w.heap.size ≤ b; omega) _, by simpa using h.sz, h.bw⟩
theorem PDS.set3 (h : PDS w W b s0 s1 n2 n3 b4 v5) (n : Int) : PDS w (W.setCell ⟨b, 3, none⟩ (.int .i64 n)) b s0 s1 n2 n b4 v5 :=
  ⟨at_set h.at1 3 _, at_off' h.at2 (by omega) _, h.fr.setCell (p := ⟨b, 3, none⟩) (by have := h.bw; show w.heap.size ≤ b; omega) _, by simpa using h.sz, h.bw⟩
theorem PDS.set5 (h : PDS w W b s0 s1 n2 n3 b4 v5) (u : Value) : PDS w (W.setCell ⟨b, 5, none⟩ u) b s0 s1 n2 n3 b4 u :=
  ⟨at_set h.at1 5 _, at_off' h.at2 (by omega) _, h.fr.setCell (p := ⟨b, 5, none⟩) (by have := h.bw; show w.heap.size ≤ b; omega) _, by simpa using h.sz, h.bw⟩
theorem PDS.cells (h : PDS w W b s0 s1 n2 n3 b4 v5) :
    (W.cell? ⟨b, 0, none⟩ = some (.string s0) ∧ W.cell? ⟨b, 1, none⟩ = some (.string s1) ∧ W.cell? ⟨b, 2, none⟩ = some (.int .i64 n2) ∧ W.cell? ⟨b, 3, none⟩ = some (.int .i64 n3) ∧ W.cell? ⟨b, 4, none⟩ = some (.bool b4) ∧ W.cell? ⟨b, 5, none⟩ = some v5) ∧ ∀ i, W.frozen? ⟨b, i, none⟩ = false :=
  ⟨⟨cell_of_at h.at1 rfl, cell_of_at h.at1 rfl, cell_of_at h.at1 rfl, cell_of_at h.at1 rfl, cell_of_at h.at1 rfl, cell_of_at h.at1 rfl⟩, fun i => by simp [World.frozen?, h.at1]⟩
end
end Go.Proofs.YtldncgelghcjeaaGreatDoor
namespace Go.Proofs.YtldncgelghcjeaaGreatDoor
open Go.ChangeShapes Go.WideShapes Go.ChangeAt Go.RowKit
attribute [local go_sem ↓] Go.wp_at_zero Go.wp_at_succ

set_option maxRecDepth 100000 in
set_option maxHeartbeats 4000000 in
theorem pdef_A (name ns : ByteArray) (rs gr : Int) (ho : Bool) (a : Option Addr) (cap : Nat) (cs : List CM) (w : World) (hr : RowAt w a (ccells cs)) (hin : ∀ m ∈ cs, m.In w) (hlw : ∀ m ∈ cs, m.c.Low) (hl : cs.length ≤ 1048576) (hn1 : name.size ≤ 1048576) (hn2 : ns.size ≤ 1048576) (hns : ns = ⟨#[]⟩) :
    Calls Tryz.prog 82 #[.agg #[.string name, .string ns, .int .i64 rs, .int .i64 gr, .bool ho, .slice a cs.length cap]] w fun e w' => ∃ (a' : Option Addr) (cap' : Nat) (D : List CM), e = .returned (.agg #[.string name, .string (if ns.size = 0 then nsDef else ns), .int .i64 rs, .int .i64 (if gr = 0 then 30 else gr), .bool ho, .slice a' cs.length cap']) ∧ D.length = cs.length ∧ D.map (·.c) = cs.map (fun m => defC m.c) ∧ w'.ownsRow w.heap.size 126 7 (.slice a' cs.length cap') cs.length (ccells D) ∧ (∀ m ∈ D, QIn w' w.heap.size m) ∧ Fresh w w' := by
  have HROW := Lib.hid hr
  have HINS := Lib.hid hin
  have HLW := Lib.hid hlw
  have HK0 := Lib.hid (fun W => clone_any name W (by omega))
  have HK1 := Lib.hid (fun W => clone_any ns W (by omega))
  have HOE := Lib.hid (fun W => orElse_any gr 30 W)
  have HCC := Lib.hid (fun W (f : Fresh w W) => cloneC_any cs a cap W (HROW.out.move f) hl)
  obtain ⟨ns2, hns2⟩ : ∃ s, s = if ns.size = 0 then nsDef else ns := ⟨_, rfl⟩
  rw [← hns2]
  generalize (if gr = 0 then (30 : Int) else gr) = gr2 at *
  have hN : ns2 = nsDef := hns2.trans (by rw [hns]; rfl)
  subst hns
  clear hns2
  clear hr hin hlw hn1 hn2 HROW
  have hst := PDS.start (w := w) (s0 := name) (s1 := ⟨#[]⟩) (n2 := rs) (n3 := gr) (b4 := ho) (v5 := .slice a cs.length cap)
  have HST := Lib.hid hst
  clear hst
  go_enter Tryz.func82, Tryz.ntmps82
  go_wp2_with (fail)
  generalize (w.alloc (.cells #[.string name, .string ⟨#[]⟩, .int .i64 rs, .int .i64 gr, .bool ho, .slice a cs.length cap] 41)).alloc (.cells #[.string ⟨#[]⟩, .string ⟨#[]⟩, .int .i64 0, .int .i64 0, .bool false, .slice none 0 0] 41) = W0 at *
  obtain ⟨b, hb⟩ : ∃ b, b = w.heap.size := ⟨_, rfl⟩
  have HBW := Lib.hid hb
  rw [← hb] at HST ⊢
  clear hb
  refine (HK0.out W0).mono ?_
  rintro e W1 ⟨rfl, hf⟩
  have HS1 := Lib.hid (HST.out.go hf)
  clear hf HST
  obtain ⟨⟨q0, q1, q2, q3, q4, q5⟩, fz⟩ := HS1.out.cells
  have f0 := fz 0
  clear fz q2 q3 q4 q5
  go_wp2_with (fail)
  have HS2 := Lib.hid (HS1.out.set0 name)
  generalize W1.setCell ⟨b, 0, none⟩ (.string name) = W2 at *
  clear HS1 q0 q1 f0
  refine (HK1.out W2).mono ?_
  rintro e W3 ⟨rfl, hf⟩
  have HS3 := Lib.hid (HS2.out.go hf)
  clear hf HS2
  obtain ⟨⟨q0, q1, q2, q3, q4, q5⟩, fz⟩ := HS3.out.cells
  have f0 := fz 1
  clear fz q0 q2 q4 q5
  go_wp2_with (fail)
  have HS4 : Hid (PDS w ((W3.setCell ⟨b, 1, none⟩ (.string ⟨#[]⟩)).setCell ⟨b, 1, none⟩ (.string ⟨#[100, 101, 102, 97, 117, 108, 116]⟩)) b name ns2 rs gr ho (.slice a cs.length cap)) := by
    rw [hN]
    exact (HS3.out.set1 _).set1 _
  generalize (W3.setCell ⟨b, 1, none⟩ (.string ⟨#[]⟩)).setCell ⟨b, 1, none⟩ (.string ⟨#[100, 101, 102, 97, 117, 108, 116]⟩) = W4 at *
  clear hN
  clear HS3 q1 q3 f0
  refine (HOE.out W4).mono ?_
  rintro e W4' ⟨rfl, rfl⟩
  obtain ⟨⟨q0, q1, q2, q3, q4, q5⟩, fz⟩ := HS4.out.cells
  have f0 := fz 3
  clear fz q0 q1 q2 q4
  go_wp2_with (fail)
  have HS5 := Lib.hid (HS4.out.set3 gr2)
  generalize W4.setCell ⟨b, 3, none⟩ (.int .i64 gr2) = W5 at *
  clear HS4 q3 q5 f0
  refine (HCC.out W5 HS5.out.fr).mono ?_
  rintro e W6 ⟨a2, cap2, rfl, hown, hf⟩
  have HS6 := Lib.hid (HS5.out.go hf)
  have HO6 := Lib.hid (World.ownsRow.mono hown HS5.out.sz)
  clear hf HS5 hown
  obtain ⟨⟨q0, q1, q2, q3, q4, q5⟩, fz⟩ := HS6.out.cells
  have f0 := fz 5
  clear fz q0 q1 q2 q3 q4
  go_wp2_with (fail)
  have HS7 := Lib.hid (HS6.out.set5 (.slice a2 cs.length cap2))
  have HO7 := Lib.hid (own_set' (p := ⟨b, 5, none⟩) HO6.out (by show b < b + 2; omega) (.slice a2 cs.length cap2))
  dsimp only at HO7
  generalize W6.setCell ⟨b, 5, none⟩ (.slice a2 cs.length cap2) = W7 at *
  clear HS6 HO6 q5 f0
  go_loopw [28] (fun a28 wr => ∃ (k : Nat) (D : List CM), a28 = .int .i64 (k : Int) ∧ k ≤ cs.length ∧ Hid (D.length = k ∧ D.map (·.c) = (cs.take k).map (fun m => defC m.c)) ∧ Hid (PDS w wr b name ns2 rs gr2 ho (.slice a2 cs.length cap2)) ∧ Hid (wr.ownsRow (b + 2) 126 7 (.slice a2 cs.length cap2) cs.length (ccells (D ++ cs.drop k))) ∧ Hid (∀ m ∈ D, QIn wr (b + 2) m)) (fun a28 _ => cs.length - (intOf a28).toNat)
  case atStart => exact ⟨0, [], rfl, Nat.zero_le _, ⟨rfl, rfl⟩, HS7.out, HO7.out, fun m hm => absurd hm List.not_mem_nil⟩
  case round =>
    obtain ⟨k, D, rfl, hk, HD, HS, HO, HQ⟩ := hrel
    by_cases hlt : k < cs.length
    · obtain ⟨g, rfl, hgb, hnc⟩ := own_form HO.out hlt
      have hsp : D ++ cs.drop k = D ++ cs[k] :: cs.drop (k + 1) := by rw [List.drop_eq_getElem_cons hlt]
      have hcell : ∀ i v, i < 7 → cs[k].cells[i]? = some v → wr.cell? ⟨g, k * 7 + i, none⟩ = some v := fun i v hi hv => by
        rw [World.ownsRow.cellAt HO.out (k * 7 + i) (by omega)]
        have hlen : k < (D ++ cs.drop k).length := by rw [List.length_append, List.length_drop, HD.out.1]; omega
        have h1 := flat_get CM.cells 7 (fun _ => rfl) (D ++ cs.drop k) k hlen i hi
        have h2 : (D ++ cs.drop k)[k] = cs[k] := by
          rw [List.getElem_append_right (by rw [HD.out.1]; exact Nat.le_refl _)]
          simp [HD.out.1]
        rw [h2, hv] at h1
        exact h1
      have c0 := hcell 0 _ (by omega) rfl
      have c1 := hcell 1 _ (by omega) rfl
      have c2 := hcell 2 _ (by omega) rfl
      have c3 := hcell 3 _ (by omega) rfl
      have c4 := hcell 4 _ (by omega) rfl
      have c5 := hcell 5 _ (by omega) rfl
      have c6 := hcell 6 _ (by omega) rfl
      clear hcell
      rw [Nat.add_zero] at c0
      have HWD : Hid (∀ W, Fresh wr W → Calls Tryz.prog 118 #[cs[k].val] W fun e w' => ∃ n : CM, e = .returned n.val ∧ n.c = defC cs[k].c ∧ QIn w' W.heap.size n ∧ Fresh W w') := fun W f =>
        wd_any cs[k] W (((HINS.out _ (List.getElem_mem hlt)).move HS.out.fr).move f) (HLW.out _ (List.getElem_mem hlt))
      have HTK : Hid ((cs.take (k + 1)).map (fun m => defC m.c) = (cs.take k).map (fun m => defC m.c) ++ [defC cs[k].c]) := by
        rw [Hid, List.take_succ_eq_append_getElem hlt, List.map_append]; rfl
      have HSET : Hid (∀ n : CM, ccells ((D ++ cs.drop k).set k n) = ccells ((D ++ [n]) ++ cs.drop (k + 1))) := fun n => by
        rw [hsp, mid_set HD.out.1]
      have HLEN : Hid (k < (D ++ cs.drop k).length) := by rw [Hid, List.length_append, List.length_drop, HD.out.1]; omega
      clear hsp
      generalize cs[k] = m at *
      obtain ⟨⟨s0, s1, lc, lp, n4, n5, le⟩, ca, cc, pa, pc, ea, ec⟩ := m
      dsimp only [CM.val] at *
      generalize lc.length = z1 at *
      generalize lp.length = z2 at *
      generalize le.length = z3 at *
      have q5 := HS.out.cells.1.2.2.2.2.2
      have i1 : (0 : Int) ≤ (k : Int) := by omega
      have i2 : (k : Int) < (cs.length : Int) := by omega
      have HZ : Hid (g < wr.heap.size) := World.block_lt_of_cell? wr _ c0
      have HAT := Lib.hid (at_new wr (.cells #[.string s0, .string s1, .slice ca z1 cc, .slice pa z2 pc, .int .i64 n4, .int .i64 n5, .slice ea z3 ec] 126))
      have HFA := Lib.hid ((Fresh.refl wr).alloc (.cells #[.string s0, .string s1, .slice ca z1 cc, .slice pa z2 pc, .int .i64 n4, .int .i64 n5, .slice ea z3 ec] 126))
      go_wp2_with (fail)
      all_goals try (exfalso; omega)
      generalize hWW : wr.alloc (.cells #[.string s0, .string s1, .slice ca z1 cc, .slice pa z2 pc, .int .i64 n4, .int .i64 n5, .slice ea z3 ec] 126) = WW at *
      clear hWW
      have HWA : Hid (∀ W, Fresh WW W → (W.cell? ⟨b, 5, none⟩ = some (.slice (some ⟨g, 0, none⟩) cs.length cap2) ∧ W.cell? ⟨wr.heap.size, 0, none⟩ = some (.string s0) ∧ W.cell? ⟨wr.heap.size, 1, none⟩ = some (.string s1) ∧ W.cell? ⟨wr.heap.size, 2, none⟩ = some (.slice ca z1 cc) ∧ W.cell? ⟨wr.heap.size, 3, none⟩ = some (.slice pa z2 pc) ∧ W.cell? ⟨wr.heap.size, 4, none⟩ = some (.int .i64 n4) ∧ W.cell? ⟨wr.heap.size, 5, none⟩ = some (.int .i64 n5) ∧ W.cell? ⟨wr.heap.size, 6, none⟩ = some (.slice ea z3 ec))) := fun W f =>
        ⟨(HFA.out.trans f).cell q5, f.cell (cell_of_at HAT.out rfl), f.cell (cell_of_at HAT.out rfl), f.cell (cell_of_at HAT.out rfl), f.cell (cell_of_at HAT.out rfl), f.cell (cell_of_at HAT.out rfl), f.cell (cell_of_at HAT.out rfl), f.cell (cell_of_at HAT.out rfl)⟩
      have HWC : Hid (∀ W, Fresh WW W → ((W.cell? ⟨g, k * 7, none⟩ = some (.string s0) ∧ W.cell? ⟨g, k * 7 + 1, none⟩ = some (.string s1) ∧ W.cell? ⟨g, k * 7 + 2, none⟩ = some (.slice ca z1 cc) ∧ W.cell? ⟨g, k * 7 + 3, none⟩ = some (.slice pa z2 pc) ∧ W.cell? ⟨g, k * 7 + 4, none⟩ = some (.int .i64 n4) ∧ W.cell? ⟨g, k * 7 + 5, none⟩ = some (.int .i64 n5) ∧ W.cell? ⟨g, k * 7 + 6, none⟩ = some (.slice ea z3 ec)) ∧ (W.frozen? ⟨g, k * 7, none⟩ = false ∧ W.frozen? ⟨g, k * 7 + 1, none⟩ = false ∧ W.frozen? ⟨g, k * 7 + 2, none⟩ = false ∧ W.frozen? ⟨g, k * 7 + 3, none⟩ = false ∧ W.frozen? ⟨g, k * 7 + 4, none⟩ = false ∧ W.frozen? ⟨g, k * 7 + 5, none⟩ = false ∧ W.frozen? ⟨g, k * 7 + 6, none⟩ = false))) := fun W f =>
        have x := own_fresh' HO.out (HFA.out.trans f)
        ⟨⟨(HFA.out.trans f).cell c0, (HFA.out.trans f).cell c1, (HFA.out.trans f).cell c2, (HFA.out.trans f).cell c3, (HFA.out.trans f).cell c4, (HFA.out.trans f).cell c5, (HFA.out.trans f).cell c6⟩, World.ownsRow.frozenAt x _, World.ownsRow.frozenAt x _, World.ownsRow.frozenAt x _, World.ownsRow.frozenAt x _, World.ownsRow.frozenAt x _, World.ownsRow.frozenAt x _, World.ownsRow.frozenAt x _⟩
      have HGO : Hid (∀ (W : World) (n : CM), Fresh WW W → QIn W (b + 2) n → ∀ Z, Z = ((((((W.setCell ⟨g, k * 7, none⟩ (.string n.c.name)).setCell ⟨g, k * 7 + 1, none⟩ (.string n.c.image)).setCell ⟨g, k * 7 + 2, none⟩ (.slice n.ca n.c.cmd.length n.cc)).setCell ⟨g, k * 7 + 3, none⟩ (.slice n.pa n.c.ports.length n.pc)).setCell ⟨g, k * 7 + 4, none⟩ (.int .i64 n.c.cpu)).setCell ⟨g, k * 7 + 5, none⟩ (.int .i64 n.c.mem)).setCell ⟨g, k * 7 + 6, none⟩ (.slice n.ea n.c.env.length n.ec) → PDS w Z b name ns2 rs gr2 ho (.slice (some ⟨g, 0, none⟩) cs.length cap2) ∧ Z.ownsRow (b + 2) 126 7 (.slice (some ⟨g, 0, none⟩) cs.length cap2) cs.length (ccells ((D ++ [n]) ++ cs.drop (k + 1))) ∧ ∀ m ∈ D ++ [n], QIn Z (b + 2) m) := fun W n f hq Z hZ => by
        subst hZ
        have o0 := own_fresh' HO.out (HFA.out.trans f)
        have o1 := (World.ownsRow.stored o0 (k * 7) (.string n.c.name)).1
        have o2 := (World.ownsRow.stored o1 (k * 7 + 1) (.string n.c.image)).1
        have o3 := (World.ownsRow.stored o2 (k * 7 + 2) (.slice n.ca n.c.cmd.length n.cc)).1
        have o4 := (World.ownsRow.stored o3 (k * 7 + 3) (.slice n.pa n.c.ports.length n.pc)).1
        have o5 := (World.ownsRow.stored o4 (k * 7 + 4) (.int .i64 n.c.cpu)).1
        have o6 := (World.ownsRow.stored o5 (k * 7 + 5) (.int .i64 n.c.mem)).1
        have o7 := (World.ownsRow.stored o6 (k * 7 + 6) (.slice n.ea n.c.env.length n.ec)).1
        rw [ccells_set7 _ k n HLEN.out, HSET.out n] at o7
        refine ⟨((((((((HS.out.go (HFA.out.trans f)).off (i := k * 7) hgb _).off (i := k * 7 + 1) hgb _).off (i := k * 7 + 2) hgb _).off (i := k * 7 + 3) hgb _).off (i := k * 7 + 4) hgb _).off (i := k * 7 + 5) hgb _).off (i := k * 7 + 6) hgb _), o7, fun m hm => ?_⟩
        have q0 : QIn W (b + 2) m := by
          rcases List.mem_append.1 hm with h | h
          · exact ((HQ.out m h).fresh HFA.out).fresh f
          · rw [List.mem_singleton.1 h]; exact hq
        exact ((((((q0.stored o0 _ _).stored o1 _ _).stored o2 _ _).stored o3 _ _).stored o4 _ _).stored o5 _ _).stored o6 _ _
      obtain ⟨j0, j1, j2, j3, j4, j5, j6, j7⟩ := HWA.out WW (Fresh.refl _)
      have HWD2 := Lib.hid (HWD.out WW.drew HFA.out.drew)
      have HSZ : Hid (b + 2 ≤ WW.drew.heap.size) := Nat.le_trans HS.out.sz HFA.out.size
      have hz1 : ¬ g = b := by omega
      have hz2 : ¬ b = g := by omega
      have hz3 : ¬ g = wr.heap.size := by have := HZ.out; omega
      have hz4 : ¬ wr.heap.size = g := by have := HZ.out; omega
      generalize wr.heap.size = z at *
      clear c0 c1 c2 c3 c4 c5 c6 q5 HWD
      go_region_held3 (fun w' => (w'.cell? ⟨b, 5, none⟩ = some (.slice (some ⟨g, 0, none⟩) cs.length cap2) ∧ w'.cell? ⟨z, 0, none⟩ = some (.string s0) ∧ w'.cell? ⟨z, 1, none⟩ = some (.string s1) ∧ w'.cell? ⟨z, 2, none⟩ = some (.slice ca z1 cc) ∧ w'.cell? ⟨z, 3, none⟩ = some (.slice pa z2 pc) ∧ w'.cell? ⟨z, 4, none⟩ = some (.int .i64 n4) ∧ w'.cell? ⟨z, 5, none⟩ = some (.int .i64 n5) ∧ w'.cell? ⟨z, 6, none⟩ = some (.slice ea z3 ec))) (go_keep)
        (first | (go_at_call 118; (with_reducible refine HWD2.out.mono ?_); rintro e V1 ⟨n, rfl, hnc2, hq, hf⟩; have HF1 := Lib.hid ((Fresh.refl WW).drew.trans hf); have HQN := Lib.hid (QIn.mono hq HSZ.out); have HNC := Lib.hid hnc2; have HGO2 := Lib.hid (HGO.out V1 n HF1.out HQN.out); obtain ⟨l0, l1, l2, l3, l4, l5, l6, l7⟩ := HWA.out _ HF1.out; obtain ⟨⟨x0, x1, x2, x3, x4, x5, x6⟩, y0, y1, y2, y3, y4, y5, y6⟩ := HWC.out _ HF1.out; clear hf hq hnc2; dsimp only [CM.val]))
      have HZ2 := Lib.hid (HGO2.out _ rfl)
      clear HGO2 x0 x1 x2 x3 x4 x5 x6 y0 y1 y2 y3 y4 y5 y6 l0 l1 l2 l3 l4 l5 l6 l7 j0 j1 j2 j3 j4 j5 j6 j7
      generalize ((((((V1.setCell ⟨g, k * 7, none⟩ (.string n.c.name)).setCell ⟨g, k * 7 + 1, none⟩ (.string n.c.image)).setCell ⟨g, k * 7 + 2, none⟩ (.slice n.ca n.c.cmd.length n.cc)).setCell ⟨g, k * 7 + 3, none⟩ (.slice n.pa n.c.ports.length n.pc)).setCell ⟨g, k * 7 + 4, none⟩ (.int .i64 n.c.cpu)).setCell ⟨g, k * 7 + 5, none⟩ (.int .i64 n.c.mem)).setCell ⟨g, k * 7 + 6, none⟩ (.slice n.ea n.c.env.length n.ec) = ZZ at *
      go_wp2
      all_goals try (exfalso; omega)
      go_roundw
      case rel => exact ⟨k + 1, D ++ [n], by simp, by omega, ⟨by rw [List.length_append, HD.out.1]; rfl, by rw [List.map_append, HD.out.2, HTK.out, ← HNC.out]; rfl⟩, HZ2.out.1, HZ2.out.2.1, HZ2.out.2.2⟩
      case measure => simp [intOf]; omega
    · obtain rfl : k = cs.length := by omega
      have HO2 : Hid (wr.ownsRow (b + 2) 126 7 (.slice a2 cs.length cap2) cs.length (ccells D)) := by
        have := HO.out
        rwa [List.drop_length, List.append_nil] at this
      have HD2 : Hid (D.map (·.c) = cs.map (fun m => defC m.c)) := by
        have := HD.out.2
        rwa [List.take_length] at this
      obtain ⟨⟨q0, q1, q2, q3, q4, q5⟩, _⟩ := HS.out.cells
      obtain ⟨⟨z0, z1, z2, z3, z4, z5⟩, fy⟩ := box6p HS.out.at2
      have y0 := fy 0
      have y1 := fy 1
      have y2 := fy 2
      have y3 := fy 3
      have y4 := fy 4
      have y5 := fy 5
      clear fy
      go_wp2
      all_goals try (exfalso; omega)
      have l1 : ∀ i, (⟨b + 1, i, none⟩ : Addr).block < b + 2 := fun i => Nat.lt_succ_self (b + 1)
      refine bodyPost_ret (v := .agg #[.string name, .string ns2, .int .i64 rs, .int .i64 gr2, .bool ho, .slice a2 cs.length cap2]) (by simp [results, Tryz.f82, go_sem, *]) rfl ⟨a2, cap2, D, rfl, HD.out.1, HD2.out, ?_, ?_, ?_⟩
      · refine World.ownsRow.mono (base := b + 2) ?_ (by have := HBW.out; omega)
        exact own_set' (p := ⟨b + 1, 5, none⟩) (own_set' (p := ⟨b + 1, 4, none⟩) (own_set' (p := ⟨b + 1, 3, none⟩) (own_set' (p := ⟨b + 1, 2, none⟩) (own_set' (p := ⟨b + 1, 1, none⟩) (own_set' (p := ⟨b + 1, 0, none⟩) HO2.out (l1 0) _) (l1 1) _) (l1 2) _) (l1 3) _) (l1 4) _) (l1 5) _
      · intro m hm
        refine QIn.mono (B := b + 2) ?_ (by have := HBW.out; omega)
        exact QIn.set (p := ⟨b + 1, 5, none⟩) (QIn.set (p := ⟨b + 1, 4, none⟩) (QIn.set (p := ⟨b + 1, 3, none⟩) (QIn.set (p := ⟨b + 1, 2, none⟩) (QIn.set (p := ⟨b + 1, 1, none⟩) (QIn.set (p := ⟨b + 1, 0, none⟩) (HQ.out m hm) (l1 0) _) (l1 1) _) (l1 2) _) (l1 3) _) (l1 4) _) (l1 5) _
      · repeat (refine Fresh.setCell ?_ (by have := HBW.out; simp; omega) _)
        exact HS.out.fr
end Go.Proofs.YtldncgelghcjeaaGreatDoor
