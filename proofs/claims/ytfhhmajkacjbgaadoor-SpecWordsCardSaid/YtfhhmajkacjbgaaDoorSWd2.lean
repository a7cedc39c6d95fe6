/-
  A container with its defaults, by package spec: walked.
-/
import Derived.Test.YtfhhmajkacjbgaaDoorSWd
import Derived.Deep.Cut
namespace Go.Proofs.YtfhhmajkacjbgaaDoor
open Go.ChangeShapes Go.WideShapes Go.ChangeAt Go.RowKit
attribute [local go_sem ↓] Go.wp_at_zero Go.wp_at_succ

theorem tset_same (l : List ByteArray) (k : Nat) (h : k < l.length) : (tcells l).set k (.string l[k]) = tcells l := by
  refine set_same ?_
  have := flat_get tcell 1 (fun _ => rfl) l k h 0 (by omega)
  rw [Nat.mul_one, Nat.add_zero] at this
  exact this
theorem eset_same (l : List (ByteArray × ByteArray)) (k : Nat) (h : k < l.length) : ((ecells l).set (k * 2) (.string l[k].1)).set (k * 2 + 1) (.string l[k].2) = ecells l := by
  have h0 : (ecells l)[k * 2]? = some (.string l[k].1) := flat_get ecell 2 (fun _ => rfl) l k h 0 (by omega)
  have h1 : (ecells l)[k * 2 + 1]? = some (.string l[k].2) := flat_get ecell 2 (fun _ => rfl) l k h 1 (by omega)
  rw [set_same h0, set_same h1]
theorem own_ne' {W : World} {B B' : Nat} {e e' k k' n n' : Nat} {v v' : Value} {xs xs' : List Value} (h : W.ownsRow B e k v n xs) (h' : W.ownsRow B' e' k' v' n' xs') (hne : e ≠ e') : v.ownBlock = none ∨ v.ownBlock ≠ v'.ownBlock := by
  rcases h.2 with ⟨rfl, _⟩ | ⟨g, cap, cur, rfl, _, hg, _⟩
  · exact .inl rfl
  · refine .inr fun e2 => ?_
    rcases h'.2 with ⟨rfl, _⟩ | ⟨g', cap', cur', rfl, _, hg', _⟩
    · cases e2
    · have : g = g' := by simpa [Value.ownBlock] using e2
      subst this
      rw [hg] at hg'
      cases hg'
      exact hne rfl
set_option maxRecDepth 100000 in
set_option maxHeartbeats 4000000 in
theorem wd_any (m : CM) (w : World) (hm : m.In w) (lm : m.c.Low) :
    Calls Tryd.prog 39 #[m.val] w fun e w' => ∃ n : CM, e = .returned n.val ∧ n.c = defC m.c ∧ QIn w' w.heap.size n ∧ Fresh w w' := by
  obtain ⟨⟨s0, s1, lc, lp, n4, n5, le⟩, ca, cc, pa, pc, ea, ec⟩ := m
  have HRC := Lib.hid hm.cmd
  have HRP := Lib.hid hm.ports
  have HRE := Lib.hid hm.env
  have HL : Hid (lc.length ≤ 1048576 ∧ lp.length ≤ 1048576 ∧ le.length ≤ 1048576) := ⟨lm.lc, lm.lp, lm.le⟩
  have HCS : Hid (∀ s ∈ lc, s.size ≤ 1048576) := lm.cmd
  have HES : Hid (∀ v ∈ le, v.1.size ≤ 1048576 ∧ v.2.size ≤ 1048576) := lm.env
  have HS0 : Hid (s0.size ≤ 1048576 ∧ s1.size ≤ 1048576) := ⟨lm.name, lm.image⟩
  have HK0 := Lib.hid (fun W => clone_any s0 W (by have := HS0.out.1; omega))
  have HK1 := Lib.hid (fun W => clone_any s1 W (by have := HS0.out.2; omega))
  have HCT := Lib.hid (fun W (f : Fresh w W) => cloneT_any lc ca cc W (HRC.out.move f) HL.out.1)
  have HCP := Lib.hid (fun W (f : Fresh w W) => cloneP_any lp pa pc W (HRP.out.move f) HL.out.2.1)
  have HCE := Lib.hid (fun W (f : Fresh w W) => cloneE_any le ea ec W (HRE.out.move f) HL.out.2.2)
  have HO4 := Lib.hid (fun W => orElse_any n4 100 W)
  have HO5 := Lib.hid (fun W => orElse_any n5 64 W)
  have HD : Hid (∀ a b c d e f : _, (CM.mk (defC ⟨s0, s1, lc, lp, n4, n5, le⟩) a b c d e f).val = .agg #[.string s0, .string s1, .slice a lc.length b, .slice c lp.length d, .int .i64 (if n4 = 0 then 100 else n4), .int .i64 (if n5 = 0 then 64 else n5), .slice e le.length f]) := fun _ _ _ _ _ _ => rfl
  dsimp only [CM.val] at *
  clear hm lm HRC HRP HRE HS0
  generalize (if n4 = 0 then (100 : Int) else n4) = m4 at *
  generalize (if n5 = 0 then (64 : Int) else n5) = m5 at *
  have hst := WDS.start (w := w) (s0 := s0) (s1 := s1) (v2 := .slice ca lc.length cc) (v3 := .slice pa lp.length pc) (n4 := n4) (n5 := n5) (v6 := .slice ea le.length ec)
  have HST := Lib.hid hst
  clear hst
  go_enter Tryd.func39, Tryd.ntmps39
  go_wp2_with (fail)
  generalize (w.alloc (.cells #[.string s0, .string s1, .slice ca lc.length cc, .slice pa lp.length pc, .int .i64 n4, .int .i64 n5, .slice ea le.length ec] 53)).alloc (.cells #[.string ⟨#[]⟩, .string ⟨#[]⟩, .slice none 0 0, .slice none 0 0, .int .i64 0, .int .i64 0, .slice none 0 0] 53) = W0 at *
  obtain ⟨b, hb⟩ : ∃ b, b = w.heap.size := ⟨_, rfl⟩
  have HBW := Lib.hid hb
  rw [← hb] at HST ⊢
  clear hb
  refine (HK0.out W0).mono ?_
  rintro e W1 ⟨rfl, hf⟩
  have HS1 := Lib.hid (HST.out.go hf)
  clear hf HST
  obtain ⟨⟨q0, q1, q2, q3, q4, q5, q6⟩, fz⟩ := HS1.out.cells
  have f0 := fz 0
  clear fz q2 q3 q4 q5 q6
  go_wp2_with (fail)
  have HS2 := Lib.hid (HS1.out.set0 s0)
  generalize W1.setCell ⟨b, 0, none⟩ (.string s0) = W2 at *
  clear HS1 q0 q1 f0
  refine (HK1.out W2).mono ?_
  rintro e W3 ⟨rfl, hf⟩
  have HS3 := Lib.hid (HS2.out.go hf)
  clear hf HS2
  obtain ⟨⟨q0, q1, q2, q3, q4, q5, q6⟩, fz⟩ := HS3.out.cells
  have f0 := fz 1
  clear fz q0 q3 q4 q5 q6
  go_wp2_with (fail)
  have HS4 := Lib.hid (HS3.out.set1 s1)
  generalize W3.setCell ⟨b, 1, none⟩ (.string s1) = W4 at *
  clear HS3 q1 q2 f0
  refine (HCT.out W4 HS4.out.fr).mono ?_
  rintro e W5 ⟨ca2, cc2, rfl, hown, hf⟩
  have HS5 := Lib.hid (HS4.out.go hf)
  have HOC := Lib.hid (World.ownsRow.mono hown HS4.out.sz)
  clear hf HS4 hown
  obtain ⟨⟨q0, q1, q2, q3, q4, q5, q6⟩, fz⟩ := HS5.out.cells
  have f0 := fz 2
  clear fz q0 q1 q3 q4 q5 q6
  go_wp2_with (fail)
  have HS6 := Lib.hid (HS5.out.set2 (.slice ca2 lc.length cc2))
  have HO6 := Lib.hid (own_set' (p := ⟨b, 2, none⟩) HOC.out (by show b < b + 2; omega) (.slice ca2 lc.length cc2))
  dsimp only at HO6
  generalize W5.setCell ⟨b, 2, none⟩ (.slice ca2 lc.length cc2) = W6 at *
  clear HS5 q2 f0 HOC
  go_loopw [22] (fun a22 wr => ∃ (k : Nat), a22 = .int .i64 (k : Int) ∧ k ≤ lc.length ∧ Hid (WDS w wr b s0 s1 (.slice ca2 lc.length cc2) (.slice pa lp.length pc) n4 n5 (.slice ea le.length ec)) ∧ Hid (wr.ownsRow (b + 2) 9 1 (.slice ca2 lc.length cc2) lc.length (tcells lc))) (fun a22 _ => lc.length - (intOf a22).toNat)
  case atStart => exact ⟨0, rfl, Nat.zero_le _, HS6.out, HO6.out⟩
  case round =>
    obtain ⟨k, rfl, hk, HS, HO⟩ := hrel
    have hb1 := HL.out.1
    by_cases hlt : k < lc.length
    · obtain ⟨g, rfl, hgb, hnc⟩ := own_form HO.out hlt
      have hcell : wr.cell? ⟨g, k, none⟩ = some (.string lc[k]) := by
        rw [World.ownsRow.cellAt HO.out k (by omega)]
        have := flat_get tcell 1 (fun _ => rfl) lc k hlt 0 (by omega)
        rw [Nat.mul_one, Nat.add_zero] at this
        exact this
      have HFZ : Hid (∀ W, Fresh wr W → W.cell? ⟨g, k, none⟩ = some (.string lc[k]) ∧ W.frozen? ⟨g, k, none⟩ = false ∧ W.cell? ⟨b, 2, none⟩ = some (.slice (some ⟨g, 0, none⟩) lc.length cc2)) := fun W f =>
        ⟨f.cell hcell, World.ownsRow.frozenAt (own_fresh' HO.out f) k, f.cell HS.out.cells.1.2.2.1⟩
      have HSET := Lib.hid (tset_same lc k hlt)
      have HKS := Lib.hid (fun W => clone_any lc[k] W (by have := HCS.out _ (List.getElem_mem hlt); omega))
      have q2 := HS.out.cells.1.2.2.1
      have i1 : (0 : Int) ≤ (k : Int) := by omega
      have i2 : (k : Int) < (lc.length : Int) := by omega
      generalize lc[k] = x at *
      have hne : ¬ g = b := by omega
      have HKD := Lib.hid (HKS.out wr.drew)
      have HST : Hid (∀ W, Fresh wr W → WDS w (W.setCell ⟨g, k, none⟩ (.string x)) b s0 s1 (.slice (some ⟨g, 0, none⟩) lc.length cc2) (.slice pa lp.length pc) n4 n5 (.slice ea le.length ec) ∧ (W.setCell ⟨g, k, none⟩ (.string x)).ownsRow (b + 2) 9 1 (.slice (some ⟨g, 0, none⟩) lc.length cc2) lc.length (tcells lc)) := fun W f =>
        ⟨(HS.out.go f).off (i := k) hgb _, by
          have := (World.ownsRow.stored (own_fresh' HO.out f) k (.string x)).1
          rw [HSET.out] at this
          exact this⟩
      go_wp2_with (fail)
      all_goals try (exfalso; omega)
      go_region_held3 (fun w' => w'.cell? ⟨b, 2, none⟩ = some (.slice (some ⟨g, 0, none⟩) lc.length cc2)) (go_keep)
        (first | (go_at_call 36; (with_reducible refine HKD.out.mono ?_); rintro e Wc ⟨rfl, hf⟩; have HFc := Lib.hid ((Fresh.refl wr).drew.trans hf); obtain ⟨k0, k1, k2⟩ := HFZ.out _ HFc.out; clear hf))
      go_wp2
      all_goals try (exfalso; omega)
      go_roundw
      case rel => exact ⟨k + 1, by simp, by omega, (HST.out _ HFc.out).1, (HST.out _ HFc.out).2⟩
      case measure => simp [intOf]; omega
    · obtain rfl : k = lc.length := by omega
      obtain ⟨⟨q0, q1, q2, q3, q4, q5, q6⟩, _⟩ := HS.out.cells
      clear q0 q1 q2 q4 q5 q6
      go_wp2_with (fail)
      all_goals try (exfalso; omega)
      clear q3 HS6 HO6
      obtain ⟨wr0, hw0⟩ : ∃ wr0, wr0 = wr := ⟨_, rfl⟩
      subst hw0
      refine (HCP.out wr0 HS.out.fr).mono ?_
      rintro e V1 ⟨pa2, pc2, rfl, hown, hf⟩
      have HS1 := Lib.hid (HS.out.go hf)
      have HO1 := Lib.hid (own_fresh' HO.out hf)
      have HP1 := Lib.hid (World.ownsRow.mono hown HS.out.sz)
      clear hf HS HO hown
      obtain ⟨⟨q0, q1, q2, q3, q4, q5, q6⟩, fz⟩ := HS1.out.cells
      have f0 := fz 3
      clear fz q0 q1 q2 q5 q6
      go_wp2_with (fail)
      have HS2 := Lib.hid (HS1.out.set3 (.slice pa2 lp.length pc2))
      have HO2 := Lib.hid (own_set' (p := ⟨b, 3, none⟩) HO1.out (by show b < b + 2; omega) (.slice pa2 lp.length pc2))
      have HP2 := Lib.hid (own_set' (p := ⟨b, 3, none⟩) HP1.out (by show b < b + 2; omega) (.slice pa2 lp.length pc2))
      dsimp only at HO2 HP2
      generalize V1.setCell ⟨b, 3, none⟩ (.slice pa2 lp.length pc2) = V2 at *
      clear HS1 HO1 HP1 q3 q4 f0
      refine (HO4.out V2).mono ?_
      rintro e V2' ⟨rfl, rfl⟩
      obtain ⟨⟨q0, q1, q2, q3, q4, q5, q6⟩, fz⟩ := HS2.out.cells
      have f0 := fz 4
      clear fz q0 q1 q2 q3 q6
      go_wp2_with (fail)
      have HS3 := Lib.hid (HS2.out.set4 m4)
      have HO3 := Lib.hid (own_set' (p := ⟨b, 4, none⟩) HO2.out (by show b < b + 2; omega) (.int .i64 m4))
      have HP3 := Lib.hid (own_set' (p := ⟨b, 4, none⟩) HP2.out (by show b < b + 2; omega) (.int .i64 m4))
      dsimp only at HO3 HP3
      generalize V2.setCell ⟨b, 4, none⟩ (.int .i64 m4) = V3 at *
      clear HS2 HO2 HP2 q4 q5 f0
      refine (HO5.out V3).mono ?_
      rintro e V3' ⟨rfl, rfl⟩
      obtain ⟨⟨q0, q1, q2, q3, q4, q5, q6⟩, fz⟩ := HS3.out.cells
      have f0 := fz 5
      clear fz q0 q1 q2 q3 q4
      go_wp2_with (fail)
      have HS4 := Lib.hid (HS3.out.set5 m5)
      have HO4 := Lib.hid (own_set' (p := ⟨b, 5, none⟩) HO3.out (by show b < b + 2; omega) (.int .i64 m5))
      have HP4 := Lib.hid (own_set' (p := ⟨b, 5, none⟩) HP3.out (by show b < b + 2; omega) (.int .i64 m5))
      dsimp only at HO4 HP4
      generalize V3.setCell ⟨b, 5, none⟩ (.int .i64 m5) = V4 at *
      clear HS3 HO3 HP3 q5 q6 f0
      refine (HCE.out V4 HS4.out.fr).mono ?_
      rintro e V5 ⟨ea2, ec2, rfl, hown, hf⟩
      have HS5 := Lib.hid (HS4.out.go hf)
      have HO5 := Lib.hid (own_fresh' HO4.out hf)
      have HP5 := Lib.hid (own_fresh' HP4.out hf)
      have HE5 := Lib.hid (World.ownsRow.mono hown HS4.out.sz)
      clear hf HS4 HO4 HP4 hown
      obtain ⟨⟨q0, q1, q2, q3, q4, q5, q6⟩, fz⟩ := HS5.out.cells
      have f0 := fz 6
      clear fz q0 q1 q2 q3 q4 q5
      go_wp2_with (fail)
      have HS6 := Lib.hid (HS5.out.set6 (.slice ea2 le.length ec2))
      have HO6 := Lib.hid (own_set' (p := ⟨b, 6, none⟩) HO5.out (by show b < b + 2; omega) (.slice ea2 le.length ec2))
      have HP6 := Lib.hid (own_set' (p := ⟨b, 6, none⟩) HP5.out (by show b < b + 2; omega) (.slice ea2 le.length ec2))
      have HE6 := Lib.hid (own_set' (p := ⟨b, 6, none⟩) HE5.out (by show b < b + 2; omega) (.slice ea2 le.length ec2))
      dsimp only at HO6 HP6 HE6
      generalize V5.setCell ⟨b, 6, none⟩ (.slice ea2 le.length ec2) = V6 at *
      clear HS5 HO5 HP5 HE5 q6 f0
      obtain ⟨⟨q0, q1, q2, q3, q4, q5, q6⟩, fz⟩ := HS6.out.cells
      clear fz q0 q1 q2 q3 q4 q5
      have hb2 := HL.out.2.2
      go_loopw [53] (fun a53 wr => ∃ (k : Nat), a53 = .int .i64 (k : Int) ∧ k ≤ le.length ∧ Hid (WDS w wr b s0 s1 (.slice ca2 lc.length cc2) (.slice pa2 lp.length pc2) m4 m5 (.slice ea2 le.length ec2)) ∧ Hid (wr.ownsRow (b + 2) 9 1 (.slice ca2 lc.length cc2) lc.length (tcells lc)) ∧ Hid (wr.ownsRow (b + 2) 55 2 (.slice pa2 lp.length pc2) lp.length (pcells lp)) ∧ Hid (wr.ownsRow (b + 2) 64 2 (.slice ea2 le.length ec2) le.length (ecells le))) (fun a53 _ => le.length - (intOf a53).toNat)
      case atStart => exact ⟨0, rfl, Nat.zero_le _, HS6.out, HO6.out, HP6.out, HE6.out⟩
      case round =>
        obtain ⟨k, rfl, hk, HS, HO, HP, HE⟩ := hrel
        by_cases hlt : k < le.length
        · obtain ⟨g, rfl, hgb, hnc⟩ := own_form HE.out hlt
          have hc0 : wr.cell? ⟨g, k * 2, none⟩ = some (.string le[k].1) := by
            rw [World.ownsRow.cellAt HE.out (k * 2) (by omega)]
            exact flat_get ecell 2 (fun _ => rfl) le k hlt 0 (by omega)
          have hc1 : wr.cell? ⟨g, k * 2 + 1, none⟩ = some (.string le[k].2) := by
            rw [World.ownsRow.cellAt HE.out (k * 2 + 1) (by omega)]
            exact flat_get ecell 2 (fun _ => rfl) le k hlt 1 (by omega)
          have HSET := Lib.hid (eset_same le k hlt)
          have HKS := Lib.hid (fun W => clone_any le[k].1 W (by have := (HES.out _ (List.getElem_mem hlt)).1; omega))
          have HKT := Lib.hid (fun W => clone_any le[k].2 W (by have := (HES.out _ (List.getElem_mem hlt)).2; omega))
          have hsw : le[k].1.size ≤ 1048576 ∧ le[k].2.size ≤ 1048576 := HES.out _ (List.getElem_mem hlt)
          clear hsw
          generalize le[k].1 = x at *
          generalize le[k].2 = y at *
          have HZ : Hid (wr.heap.size ≠ b ∧ wr.heap.size ≠ g ∧ g < wr.heap.size) := by
            have h1 := HS.out.sz
            have h2 := World.block_lt_of_cell? wr _ hc0
            exact ⟨by omega, by show wr.heap.size ≠ g; have : g < wr.heap.size := h2; omega, h2⟩
          have HAT := Lib.hid (at_new wr (.cells #[.string x, .string y] 64))
          have HFA := Lib.hid ((Fresh.refl wr).alloc (.cells #[.string x, .string y] 64))
          have q6 := HS.out.cells.1.2.2.2.2.2.2
          have i1 : (0 : Int) ≤ (k : Int) := by omega
          have i2 : (k : Int) < (le.length : Int) := by omega
          go_wp2_with (fail)
          all_goals try (exfalso; omega)
          have HWA : Hid (∀ W, Fresh (wr.alloc (.cells #[.string x, .string y] 64)) W → W.cell? ⟨g, k * 2, none⟩ = some (.string x) ∧ W.cell? ⟨g, k * 2 + 1, none⟩ = some (.string y) ∧ W.frozen? ⟨g, k * 2, none⟩ = false ∧ W.frozen? ⟨g, k * 2 + 1, none⟩ = false ∧ W.cell? ⟨b, 6, none⟩ = some (.slice (some ⟨g, 0, none⟩) le.length ec2) ∧ W.cell? ⟨wr.heap.size, 0, none⟩ = some (.string x) ∧ W.cell? ⟨wr.heap.size, 1, none⟩ = some (.string y)) := fun W f =>
            ⟨(HFA.out.trans f).cell hc0, (HFA.out.trans f).cell hc1, World.ownsRow.frozenAt (own_fresh' HE.out (HFA.out.trans f)) _, World.ownsRow.frozenAt (own_fresh' HE.out (HFA.out.trans f)) _, (HFA.out.trans f).cell q6, f.cell (cell_of_at HAT.out rfl), f.cell (cell_of_at HAT.out rfl)⟩
          have HST : Hid (∀ W, Fresh (wr.alloc (.cells #[.string x, .string y] 64)) W → WDS w ((W.setCell ⟨g, k * 2, none⟩ (.string x)).setCell ⟨g, k * 2 + 1, none⟩ (.string y)) b s0 s1 (.slice ca2 lc.length cc2) (.slice pa2 lp.length pc2) m4 m5 (.slice (some ⟨g, 0, none⟩) le.length ec2)) := fun W f =>
            ((HS.out.go (HFA.out.trans f)).off (i := k * 2) hgb _).off (i := k * 2 + 1) hgb _
          have HROWS : Hid (∀ W, Fresh (wr.alloc (.cells #[.string x, .string y] 64)) W → ((W.setCell ⟨g, k * 2, none⟩ (.string x)).setCell ⟨g, k * 2 + 1, none⟩ (.string y)).ownsRow (b + 2) 9 1 (.slice ca2 lc.length cc2) lc.length (tcells lc) ∧ ((W.setCell ⟨g, k * 2, none⟩ (.string x)).setCell ⟨g, k * 2 + 1, none⟩ (.string y)).ownsRow (b + 2) 55 2 (.slice pa2 lp.length pc2) lp.length (pcells lp) ∧ ((W.setCell ⟨g, k * 2, none⟩ (.string x)).setCell ⟨g, k * 2 + 1, none⟩ (.string y)).ownsRow (b + 2) 64 2 (.slice (some ⟨g, 0, none⟩) le.length ec2) le.length (ecells le)) := fun W f => by
            have e1 := own_fresh' HE.out (HFA.out.trans f)
            have o1 := own_fresh' HO.out (HFA.out.trans f)
            have p1 := own_fresh' HP.out (HFA.out.trans f)
            have s1 := World.ownsRow.stored e1 (k * 2) (.string x)
            have o2 := World.ownsRow.kept o1 s1.2 (own_ne' o1 e1 (by decide))
            have p2 := World.ownsRow.kept p1 s1.2 (own_ne' p1 e1 (by decide))
            have s2 := World.ownsRow.stored s1.1 (k * 2 + 1) (.string y)
            have o3 := World.ownsRow.kept o2 s2.2 (own_ne' o2 s1.1 (by decide))
            have p3 := World.ownsRow.kept p2 s2.2 (own_ne' p2 s1.1 (by decide))
            refine ⟨o3, p3, ?_⟩
            have := s2.1
            rw [HSET.out] at this
            exact this
          have hz := HZ.out
          obtain ⟨hz1, hz2, hz3⟩ := hz
          have hne : ¬ g = b := by omega
          obtain ⟨r0, r1, r2, r3, r4, r5, r6⟩ := HWA.out _ (Fresh.refl _)
          generalize hWW : wr.alloc (.cells #[.string x, .string y] 64) = WW at *
          clear hWW
          generalize wr.heap.size = z at *
          clear q6 hc0 hc1
          have hne2 : ¬ b = g := fun e => hne e.symm
          have hz4 : ¬ z = b := hz1
          have hz5 : ¬ z = g := hz2
          have hz6 : ¬ g = z := fun e => hz2 e.symm
          go_region_held3 (fun w' => w'.cell? ⟨b, 6, none⟩ = some (.slice (some ⟨g, 0, none⟩) le.length ec2) ∧ w'.cell? ⟨z, 0, none⟩ = some (.string x) ∧ w'.cell? ⟨z, 1, none⟩ = some (.string y)) (go_keep)
            (first | (go_at_call 36; (with_reducible refine (HKS.out _).mono ?_); rintro e V1 ⟨rfl, hf⟩; have HG1 := Lib.hid ((Fresh.refl WW).drew.trans hf); obtain ⟨k0, k1, k2, k3, k4, k5, k6⟩ := HWA.out _ HG1.out; clear hf) | (go_at_call 36; (with_reducible refine (HKT.out _).mono ?_); rintro e V2 ⟨rfl, hf⟩; have HG2 := Lib.hid (HG1.out.trans hf); obtain ⟨j0, j1, j2, j3, j4, j5, j6⟩ := HWA.out _ HG2.out; clear hf))
          clear r0 r1 r2 r3 r4 r5 r6
          try clear k0 k1 k2 k3 k4 k5 k6
          try clear j0 j1 j2 j3 j4 j5 j6
          go_wp2
          all_goals try (exfalso; omega)
          go_roundw
          case rel => exact ⟨k + 1, by simp, by omega, HST.out _ HG2.out, (HROWS.out _ HG2.out).1, (HROWS.out _ HG2.out).2.1, (HROWS.out _ HG2.out).2.2⟩
          case measure => simp [intOf]; omega
        · obtain rfl : k = le.length := by omega
          obtain ⟨⟨q0, q1, q2, q3, q4, q5, q6⟩, fz⟩ := HS.out.cells
          obtain ⟨⟨z0, z1, z2, z3, z4, z5, z6⟩, fy⟩ := Box7.cells (show Box7 53 wr (b + 1) ⟨#[]⟩ ⟨#[]⟩ (.slice none 0 0) (.slice none 0 0) 0 0 (.slice none 0 0) from HS.out.at2)
          have y0 := fy 0
          have y1 := fy 1
          have y2 := fy 2
          have y3 := fy 3
          have y4 := fy 4
          have y5 := fy 5
          have y6 := fy 6
          clear fz fy
          go_wp2
          all_goals try (exfalso; omega)
          have hq : ∀ {B k n : Nat} {t : TypeId} {v : Value} {xs : List Value}, wr.ownsRow (b + 2) t k v n xs → ((((((((wr.setCell ⟨b + 1, 0, none⟩ (.string s0)).setCell ⟨b + 1, 1, none⟩ (.string s1)).setCell ⟨b + 1, 2, none⟩ (.slice ca2 lc.length cc2)).setCell ⟨b + 1, 3, none⟩ (.slice pa2 lp.length pc2)).setCell ⟨b + 1, 4, none⟩ (.int .i64 m4)).setCell ⟨b + 1, 5, none⟩ (.int .i64 m5)).setCell ⟨b + 1, 6, none⟩ (.slice ea2 le.length ec2))).ownsRow (b + 2) t k v n xs := fun h => by
            have l1 : ∀ i, (⟨b + 1, i, none⟩ : Addr).block < b + 2 := fun i => Nat.lt_succ_self (b + 1)
            exact own_set' (p := ⟨b + 1, 6, none⟩) (own_set' (p := ⟨b + 1, 5, none⟩) (own_set' (p := ⟨b + 1, 4, none⟩) (own_set' (p := ⟨b + 1, 3, none⟩) (own_set' (p := ⟨b + 1, 2, none⟩) (own_set' (p := ⟨b + 1, 1, none⟩) (own_set' (p := ⟨b + 1, 0, none⟩) h (l1 0) _) (l1 1) _) (l1 2) _) (l1 3) _) (l1 4) _) (l1 5) _) (l1 6) _
          refine bodyPost_ret (v := .agg #[.string s0, .string s1, .slice ca2 lc.length cc2, .slice pa2 lp.length pc2, .int .i64 m4, .int .i64 m5, .slice ea2 le.length ec2]) (by simp [results, Tryd.f39, go_sem, *]) rfl ⟨⟨defC ⟨s0, s1, lc, lp, n4, n5, le⟩, ca2, cc2, pa2, pc2, ea2, ec2⟩, ?_, rfl, ⟨?_, ?_, ?_⟩, ?_⟩
          · rw [HD.out]
          · exact World.ownsRow.mono (hq (B := 0) HO.out) (by have := HBW.out; omega)
          · exact World.ownsRow.mono (hq (B := 0) HP.out) (by have := HBW.out; omega)
          · exact World.ownsRow.mono (hq (B := 0) HE.out) (by have := HBW.out; omega)
          · repeat (refine Fresh.setCell ?_ (by have := HBW.out; simp; omega) _)
            exact HS.out.fr
end Go.Proofs.YtfhhmajkacjbgaaDoor
