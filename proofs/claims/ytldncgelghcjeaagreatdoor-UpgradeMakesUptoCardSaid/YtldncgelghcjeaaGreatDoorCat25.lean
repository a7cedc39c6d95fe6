/-
  A pod with its defaults, by package spec: walked (printed by a script: an empty namespace, or not).
  A pod with its defaults, by package spec: for every pod.
  Package utf's Unquote of texts that are quoted well.
  Of valid UTF-8: what its first character is, and how many bytes it has.
-/
import Derived.Test.YtldncgelghcjeaaGreatDoorCat24
import Derived.Deep.Cut
import Derived.Test.YtldncgelghcjeaaGreatDoorCat09
import Derived.IntWalk
import Derived.Test.YtldncgelghcjeaaGreatDoorCat15
set_option linter.unusedSimpArgs false
set_option linter.unusedVariables false
namespace Go.Proofs.YtldncgelghcjeaaGreatDoor
open Go.ChangeShapes Go.WideShapes Go.ChangeAt Go.RowKit
attribute [local go_sem ↓] Go.wp_at_zero Go.wp_at_succ

set_option maxRecDepth 100000 in
set_option maxHeartbeats 4000000 in
theorem pdef_B (name ns : ByteArray) (rs gr : Int) (ho : Bool) (a : Option Addr) (cap : Nat) (cs : List CM) (w : World) (hr : RowAt w a (ccells cs)) (hin : ∀ m ∈ cs, m.In w) (hlw : ∀ m ∈ cs, m.c.Low) (hl : cs.length ≤ 1048576) (hn1 : name.size ≤ 1048576) (hn2 : ns.size ≤ 1048576) (hns : ¬ ns = ⟨#[]⟩) :
    Calls Tryz.prog 82 #[.agg #[.string name, .string ns, .int .i64 rs, .int .i64 gr, .bool ho, .slice a cs.length cap]] w fun e w' => ∃ (a' : Option Addr) (cap' : Nat) (D : List CM), e = .returned (.agg #[.string name, .string (if ns.size = 0 then nsDef else ns), .int .i64 rs, .int .i64 (if gr = 0 then 30 else gr), .bool ho, .slice a' cs.length cap']) ∧ D.length = cs.length ∧ D.map (·.c) = cs.map (fun m => defC m.c) ∧ w'.ownsRow w.heap.size 126 7 (.slice a' cs.length cap') cs.length (ccells D) ∧ (∀ m ∈ D, QIn w' w.heap.size m) ∧ Fresh w w' := by
  have HROW := Lib.hid hr
  have HINS := Lib.hid hin
  have HLW := Lib.hid hlw
  have HK0 := Lib.hid (fun W => clone_any name W (by omega))
  have HK1 := Lib.hid (fun W => clone_any ns W (by omega))
  have HOE := Lib.hid (fun W => orElse_any gr 30 W)
  have HCC := Lib.hid (fun W (f : Fresh w W) => cloneC_any cs a cap W (HROW.out.move f) hl)
  obtain ⟨ns2, hns2⟩ : ∃ s, s = if ns.size = 0 then nsDef else ns := ⟨_, rfl⟩
  rw [← hns2]
  generalize (if gr = 0 then (30 : Int) else gr) = gr2 at *
  have hN : ns2 = ns := hns2.trans (if_neg (fun e => hns (ByteArray.ext (Array.eq_empty_of_size_eq_zero e))))
  have e0 := tl_some hns
  clear hns2 hns
  clear hr hin hlw hn1 hn2 HROW
  have hst := PDS.start (w := w) (s0 := name) (s1 := ns) (n2 := rs) (n3 := gr) (b4 := ho) (v5 := .slice a cs.length cap)
  have HST := Lib.hid hst
  clear hst
  go_enter Tryz.func82, Tryz.ntmps82
  go_wp2_with (fail)
  generalize (w.alloc (.cells #[.string name, .string ns, .int .i64 rs, .int .i64 gr, .bool ho, .slice a cs.length cap] 41)).alloc (.cells #[.string ⟨#[]⟩, .string ⟨#[]⟩, .int .i64 0, .int .i64 0, .bool false, .slice none 0 0] 41) = W0 at *
  obtain ⟨b, hb⟩ : ∃ b, b = w.heap.size := ⟨_, rfl⟩
  have HBW := Lib.hid hb
  rw [← hb] at HST ⊢
  clear hb
  refine (HK0.out W0).mono ?_
  rintro e W1 ⟨rfl, hf⟩
  have HS1 := Lib.hid (HST.out.go hf)
  clear hf HST
  obtain ⟨⟨q0, q1, q2, q3, q4, q5⟩, fz⟩ := HS1.out.cells
  have f0 := fz 0
  clear fz q2 q3 q4 q5
  go_wp2_with (fail)
  have HS2 := Lib.hid (HS1.out.set0 name)
  generalize W1.setCell ⟨b, 0, none⟩ (.string name) = W2 at *
  clear HS1 q0 q1 f0
  refine (HK1.out W2).mono ?_
  rintro e W3 ⟨rfl, hf⟩
  have HS3 := Lib.hid (HS2.out.go hf)
  clear hf HS2
  obtain ⟨⟨q0, q1, q2, q3, q4, q5⟩, fz⟩ := HS3.out.cells
  have f0 := fz 1
  clear fz q0 q2 q4 q5
  go_wp2_with (fail)
  have HS4 : Hid (PDS w (W3.setCell ⟨b, 1, none⟩ (.string ns)) b name ns2 rs gr ho (.slice a cs.length cap)) := by
    rw [hN]
    exact HS3.out.set1 _
  generalize W3.setCell ⟨b, 1, none⟩ (.string ns) = W4 at *
  clear hN e0
  clear HS3 q1 q3 f0
  refine (HOE.out W4).mono ?_
  rintro e W4' ⟨rfl, rfl⟩
  obtain ⟨⟨q0, q1, q2, q3, q4, q5⟩, fz⟩ := HS4.out.cells
  have f0 := fz 3
  clear fz q0 q1 q2 q4
  go_wp2_with (fail)
  have HS5 := Lib.hid (HS4.out.set3 gr2)
  generalize W4.setCell ⟨b, 3, none⟩ (.int .i64 gr2) = W5 at *
  clear HS4 q3 q5 f0
  refine (HCC.out W5 HS5.out.fr).mono ?_
  rintro e W6 ⟨a2, cap2, rfl, hown, hf⟩
  have HS6 := Lib.hid (HS5.out.go hf)
  have HO6 := Lib.hid (World.ownsRow.mono hown HS5.out.sz)
  clear hf HS5 hown
  obtain ⟨⟨q0, q1, q2, q3, q4, q5⟩, fz⟩ := HS6.out.cells
  have f0 := fz 5
  clear fz q0 q1 q2 q3 q4
  go_wp2_with (fail)
  have HS7 := Lib.hid (HS6.out.set5 (.slice a2 cs.length cap2))
  have HO7 := Lib.hid (own_set' (p := ⟨b, 5, none⟩) HO6.out (by show b < b + 2; omega) (.slice a2 cs.length cap2))
  dsimp only at HO7
  generalize W6.setCell ⟨b, 5, none⟩ (.slice a2 cs.length cap2) = W7 at *
  clear HS6 HO6 q5 f0
  go_loopw [28] (fun a28 wr => ∃ (k : Nat) (D : List CM), a28 = .int .i64 (k : Int) ∧ k ≤ cs.length ∧ Hid (D.length = k ∧ D.map (·.c) = (cs.take k).map (fun m => defC m.c)) ∧ Hid (PDS w wr b name ns2 rs gr2 ho (.slice a2 cs.length cap2)) ∧ Hid (wr.ownsRow (b + 2) 126 7 (.slice a2 cs.length cap2) cs.length (ccells (D ++ cs.drop k))) ∧ Hid (∀ m ∈ D, QIn wr (b + 2) m)) (fun a28 _ => cs.length - (intOf a28).toNat)
  case atStart => exact ⟨0, [], rfl, Nat.zero_le _, ⟨rfl, rfl⟩, HS7.out, HO7.out, fun m hm => absurd hm List.not_mem_nil⟩
  case round =>
    obtain ⟨k, D, rfl, hk, HD, HS, HO, HQ⟩ := hrel
    by_cases hlt : k < cs.length
    · obtain ⟨g, rfl, hgb, hnc⟩ := own_form HO.out hlt
      have hsp : D ++ cs.drop k = D ++ cs[k] :: cs.drop (k + 1) := by rw [List.drop_eq_getElem_cons hlt]
      have hcell : ∀ i v, i < 7 → cs[k].cells[i]? = some v → wr.cell? ⟨g, k * 7 + i, none⟩ = some v := fun i v hi hv => by
        rw [World.ownsRow.cellAt HO.out (k * 7 + i) (by omega)]
        have hlen : k < (D ++ cs.drop k).length := by rw [List.length_append, List.length_drop, HD.out.1]; omega
        have h1 := flat_get CM.cells 7 (fun _ => rfl) (D ++ cs.drop k) k hlen i hi
        have h2 : (D ++ cs.drop k)[k] = cs[k] := by
          rw [List.getElem_append_right (by rw [HD.out.1]; exact Nat.le_refl _)]
          simp [HD.out.1]
        rw [h2, hv] at h1
        exact h1
      have c0 := hcell 0 _ (by omega) rfl
      have c1 := hcell 1 _ (by omega) rfl
      have c2 := hcell 2 _ (by omega) rfl
      have c3 := hcell 3 _ (by omega) rfl
      have c4 := hcell 4 _ (by omega) rfl
      have c5 := hcell 5 _ (by omega) rfl
      have c6 := hcell 6 _ (by omega) rfl
      clear hcell
      rw [Nat.add_zero] at c0
      have HWD : Hid (∀ W, Fresh wr W → Calls Tryz.prog 118 #[cs[k].val] W fun e w' => ∃ n : CM, e = .returned n.val ∧ n.c = defC cs[k].c ∧ QIn w' W.heap.size n ∧ Fresh W w') := fun W f =>
        wd_any cs[k] W (((HINS.out _ (List.getElem_mem hlt)).move HS.out.fr).move f) (HLW.out _ (List.getElem_mem hlt))
      have HTK : Hid ((cs.take (k + 1)).map (fun m => defC m.c) = (cs.take k).map (fun m => defC m.c) ++ [defC cs[k].c]) := by
        rw [Hid, List.take_succ_eq_append_getElem hlt, List.map_append]; rfl
      have HSET : Hid (∀ n : CM, ccells ((D ++ cs.drop k).set k n) = ccells ((D ++ [n]) ++ cs.drop (k + 1))) := fun n => by
        rw [hsp, mid_set HD.out.1]
      have HLEN : Hid (k < (D ++ cs.drop k).length) := by rw [Hid, List.length_append, List.length_drop, HD.out.1]; omega
      clear hsp
      generalize cs[k] = m at *
      obtain ⟨⟨s0, s1, lc, lp, n4, n5, le⟩, ca, cc, pa, pc, ea, ec⟩ := m
      dsimp only [CM.val] at *
      generalize lc.length = z1 at *
      generalize lp.length = z2 at *
      generalize le.length = z3 at *
      have q5 := HS.out.cells.1.2.2.2.2.2
      have i1 : (0 : Int) ≤ (k : Int) := by omega
      have i2 : (k : Int) < (cs.length : Int) := by omega
      have HZ : Hid (g < wr.heap.size) := World.block_lt_of_cell? wr _ c0
      have HAT := Lib.hid (at_new wr (.cells #[.string s0, .string s1, .slice ca z1 cc, .slice pa z2 pc, .int .i64 n4, .int .i64 n5, .slice ea z3 ec] 126))
      have HFA := Lib.hid ((Fresh.refl wr).alloc (.cells #[.string s0, .string s1, .slice ca z1 cc, .slice pa z2 pc, .int .i64 n4, .int .i64 n5, .slice ea z3 ec] 126))
      go_wp2_with (fail)
      all_goals try (exfalso; omega)
      generalize hWW : wr.alloc (.cells #[.string s0, .string s1, .slice ca z1 cc, .slice pa z2 pc, .int .i64 n4, .int .i64 n5, .slice ea z3 ec] 126) = WW at *
      clear hWW
      have HWA : Hid (∀ W, Fresh WW W → (W.cell? ⟨b, 5, none⟩ = some (.slice (some ⟨g, 0, none⟩) cs.length cap2) ∧ W.cell? ⟨wr.heap.size, 0, none⟩ = some (.string s0) ∧ W.cell? ⟨wr.heap.size, 1, none⟩ = some (.string s1) ∧ W.cell? ⟨wr.heap.size, 2, none⟩ = some (.slice ca z1 cc) ∧ W.cell? ⟨wr.heap.size, 3, none⟩ = some (.slice pa z2 pc) ∧ W.cell? ⟨wr.heap.size, 4, none⟩ = some (.int .i64 n4) ∧ W.cell? ⟨wr.heap.size, 5, none⟩ = some (.int .i64 n5) ∧ W.cell? ⟨wr.heap.size, 6, none⟩ = some (.slice ea z3 ec))) := fun W f =>
        ⟨(HFA.out.trans f).cell q5, f.cell (cell_of_at HAT.out rfl), f.cell (cell_of_at HAT.out rfl), f.cell (cell_of_at HAT.out rfl), f.cell (cell_of_at HAT.out rfl), f.cell (cell_of_at HAT.out rfl), f.cell (cell_of_at HAT.out rfl), f.cell (cell_of_at HAT.out rfl)⟩
      have HWC : Hid (∀ W, Fresh WW W → ((W.cell? ⟨g, k * 7, none⟩ = some (.string s0) ∧ W.cell? ⟨g, k * 7 + 1, none⟩ = some (.string s1) ∧ W.cell? ⟨g, k * 7 + 2, none⟩ = some (.slice ca z1 cc) ∧ W.cell? ⟨g, k * 7 + 3, none⟩ = some (.slice pa z2 pc) ∧ W.cell? ⟨g, k * 7 + 4, none⟩ = some (.int .i64 n4) ∧ W.cell? ⟨g, k * 7 + 5, none⟩ = some (.int .i64 n5) ∧ W.cell? ⟨g, k * 7 + 6, none⟩ = some (.slice ea z3 ec)) ∧ (W.frozen? ⟨g, k * 7, none⟩ = false ∧ W.frozen? ⟨g, k * 7 + 1, none⟩ = false ∧ W.frozen? ⟨g, k * 7 + 2, none⟩ = false ∧ W.frozen? ⟨g, k * 7 + 3, none⟩ = false ∧ W.frozen? ⟨g, k * 7 + 4, none⟩ = false ∧ W.frozen? ⟨g, k * 7 + 5, none⟩ = false ∧ W.frozen? ⟨g, k * 7 + 6, none⟩ = false))) := fun W f =>
        have x := own_fresh' HO.out (HFA.out.trans f)
        ⟨⟨(HFA.out.trans f).cell c0, (HFA.out.trans f).cell c1, (HFA.out.trans f).cell c2, (HFA.out.trans f).cell c3, (HFA.out.trans f).cell c4, (HFA.out.trans f).cell c5, (HFA.out.trans f).cell c6⟩, World.ownsRow.frozenAt x _, World.ownsRow.frozenAt x _, World.ownsRow.frozenAt x _, World.ownsRow.frozenAt x _, World.ownsRow.frozenAt x _, World.ownsRow.frozenAt x _, World.ownsRow.frozenAt x _⟩
      have HGO : Hid (∀ (W : World) (n : CM), Fresh WW W → QIn W (b + 2) n → ∀ Z, Z = ((((((W.setCell ⟨g, k * 7, none⟩ (.string n.c.name)).setCell ⟨g, k * 7 + 1, none⟩ (.string n.c.image)).setCell ⟨g, k * 7 + 2, none⟩ (.slice n.ca n.c.cmd.length n.cc)).setCell ⟨g, k * 7 + 3, none⟩ (.slice n.pa n.c.ports.length n.pc)).setCell ⟨g, k * 7 + 4, none⟩ (.int .i64 n.c.cpu)).setCell ⟨g, k * 7 + 5, none⟩ (.int .i64 n.c.mem)).setCell ⟨g, k * 7 + 6, none⟩ (.slice n.ea n.c.env.length n.ec) → PDS w Z b name ns2 rs gr2 ho (.slice (some ⟨g, 0, none⟩) cs.length cap2) ∧ Z.ownsRow (b + 2) 126 7 (.slice (some ⟨g, 0, none⟩) cs.length cap2) cs.length (ccells ((D ++ [n]) ++ cs.drop (k + 1))) ∧ ∀ m ∈ D ++ [n], QIn Z (b + 2) m) := fun W n f hq Z hZ => by
        subst hZ
        have o0 := own_fresh' HO.out (HFA.out.trans f)
        have o1 := (World.ownsRow.stored o0 (k * 7) (.string n.c.name)).1
        have o2 := (World.ownsRow.stored o1 (k * 7 + 1) (.string n.c.image)).1
        have o3 := (World.ownsRow.stored o2 (k * 7 + 2) (.slice n.ca n.c.cmd.length n.cc)).1
        have o4 := (World.ownsRow.stored o3 (k * 7 + 3) (.slice n.pa n.c.ports.length n.pc)).1
        have o5 := (World.ownsRow.stored o4 (k * 7 + 4) (.int .i64 n.c.cpu)).1
        have o6 := (World.ownsRow.stored o5 (k * 7 + 5) (.int .i64 n.c.mem)).1
        have o7 := (World.ownsRow.stored o6 (k * 7 + 6) (.slice n.ea n.c.env.length n.ec)).1
        rw [ccells_set7 _ k n HLEN.out, HSET.out n] at o7
        refine ⟨((((((((HS.out.go (HFA.out.trans f)).off (i := k * 7) hgb _).off (i := k * 7 + 1) hgb _).off (i := k * 7 + 2) hgb _).off (i := k * 7 + 3) hgb _).off (i := k * 7 + 4) hgb _).off (i := k * 7 + 5) hgb _).off (i := k * 7 + 6) hgb _), o7, fun m hm => ?_⟩
        have q0 : QIn W (b + 2) m := by
          rcases List.mem_append.1 hm with h | h
          · exact ((HQ.out m h).fresh HFA.out).fresh f
          · rw [List.mem_singleton.1 h]; exact hq
        exact ((((((q0.stored o0 _ _).stored o1 _ _).stored o2 _ _).stored o3 _ _).stored o4 _ _).stored o5 _ _).stored o6 _ _
      obtain ⟨j0, j1, j2, j3, j4, j5, j6, j7⟩ := HWA.out WW (Fresh.refl _)
      have HWD2 := Lib.hid (HWD.out WW.drew HFA.out.drew)
      have HSZ : Hid (b + 2 ≤ WW.drew.heap.size) := Nat.le_trans HS.out.sz HFA.out.size
      have hz1 : ¬ g = b := by omega
      have hz2 : ¬ b = g := by omega
      have hz3 : ¬ g = wr.heap.size := by have := HZ.out; omega
      have hz4 : ¬ wr.heap.size = g := by have := HZ.out; omega
      generalize wr.heap.size = z at *
      clear c0 c1 c2 c3 c4 c5 c6 q5 HWD
      go_region_held3 (fun w' => (w'.cell? ⟨b, 5, none⟩ = some (.slice (some ⟨g, 0, none⟩) cs.length cap2) ∧ w'.cell? ⟨z, 0, none⟩ = some (.string s0) ∧ w'.cell? ⟨z, 1, none⟩ = some (.string s1) ∧ w'.cell? ⟨z, 2, none⟩ = some (.slice ca z1 cc) ∧ w'.cell? ⟨z, 3, none⟩ = some (.slice pa z2 pc) ∧ w'.cell? ⟨z, 4, none⟩ = some (.int .i64 n4) ∧ w'.cell? ⟨z, 5, none⟩ = some (.int .i64 n5) ∧ w'.cell? ⟨z, 6, none⟩ = some (.slice ea z3 ec))) (go_keep)
        (first | (go_at_call 118; (with_reducible refine HWD2.out.mono ?_); rintro e V1 ⟨n, rfl, hnc2, hq, hf⟩; have HF1 := Lib.hid ((Fresh.refl WW).drew.trans hf); have HQN := Lib.hid (QIn.mono hq HSZ.out); have HNC := Lib.hid hnc2; have HGO2 := Lib.hid (HGO.out V1 n HF1.out HQN.out); obtain ⟨l0, l1, l2, l3, l4, l5, l6, l7⟩ := HWA.out _ HF1.out; obtain ⟨⟨x0, x1, x2, x3, x4, x5, x6⟩, y0, y1, y2, y3, y4, y5, y6⟩ := HWC.out _ HF1.out; clear hf hq hnc2; dsimp only [CM.val]))
      have HZ2 := Lib.hid (HGO2.out _ rfl)
      clear HGO2 x0 x1 x2 x3 x4 x5 x6 y0 y1 y2 y3 y4 y5 y6 l0 l1 l2 l3 l4 l5 l6 l7 j0 j1 j2 j3 j4 j5 j6 j7
      generalize ((((((V1.setCell ⟨g, k * 7, none⟩ (.string n.c.name)).setCell ⟨g, k * 7 + 1, none⟩ (.string n.c.image)).setCell ⟨g, k * 7 + 2, none⟩ (.slice n.ca n.c.cmd.length n.cc)).setCell ⟨g, k * 7 + 3, none⟩ (.slice n.pa n.c.ports.length n.pc)).setCell ⟨g, k * 7 + 4, none⟩ (.int .i64 n.c.cpu)).setCell ⟨g, k * 7 + 5, none⟩ (.int .i64 n.c.mem)).setCell ⟨g, k * 7 + 6, none⟩ (.slice n.ea n.c.env.length n.ec) = ZZ at *
      go_wp2
      all_goals try (exfalso; omega)
      go_roundw
      case rel => exact ⟨k + 1, D ++ [n], by simp, by omega, ⟨by rw [List.length_append, HD.out.1]; rfl, by rw [List.map_append, HD.out.2, HTK.out, ← HNC.out]; rfl⟩, HZ2.out.1, HZ2.out.2.1, HZ2.out.2.2⟩
      case measure => simp [intOf]; omega
    · obtain rfl : k = cs.length := by omega
      have HO2 : Hid (wr.ownsRow (b + 2) 126 7 (.slice a2 cs.length cap2) cs.length (ccells D)) := by
        have := HO.out
        rwa [List.drop_length, List.append_nil] at this
      have HD2 : Hid (D.map (·.c) = cs.map (fun m => defC m.c)) := by
        have := HD.out.2
        rwa [List.take_length] at this
      obtain ⟨⟨q0, q1, q2, q3, q4, q5⟩, _⟩ := HS.out.cells
      obtain ⟨⟨z0, z1, z2, z3, z4, z5⟩, fy⟩ := box6p HS.out.at2
      have y0 := fy 0
      have y1 := fy 1
      have y2 := fy 2
      have y3 := fy 3
      have y4 := fy 4
      have y5 := fy 5
      clear fy
      go_wp2
      all_goals try (exfalso; omega)
      have l1 : ∀ i, (⟨b + 1, i, none⟩ : Addr).block < b + 2 := fun i => Nat.lt_succ_self (b + 1)
      refine bodyPost_ret (v := .agg #[.string name, .string ns2, .int .i64 rs, .int .i64 gr2, .bool ho, .slice a2 cs.length cap2]) (by simp [results, Tryz.f82, go_sem, *]) rfl ⟨a2, cap2, D, rfl, HD.out.1, HD2.out, ?_, ?_, ?_⟩
      · refine World.ownsRow.mono (base := b + 2) ?_ (by have := HBW.out; omega)
        exact own_set' (p := ⟨b + 1, 5, none⟩) (own_set' (p := ⟨b + 1, 4, none⟩) (own_set' (p := ⟨b + 1, 3, none⟩) (own_set' (p := ⟨b + 1, 2, none⟩) (own_set' (p := ⟨b + 1, 1, none⟩) (own_set' (p := ⟨b + 1, 0, none⟩) HO2.out (l1 0) _) (l1 1) _) (l1 2) _) (l1 3) _) (l1 4) _) (l1 5) _
      · intro m hm
        refine QIn.mono (B := b + 2) ?_ (by have := HBW.out; omega)
        exact QIn.set (p := ⟨b + 1, 5, none⟩) (QIn.set (p := ⟨b + 1, 4, none⟩) (QIn.set (p := ⟨b + 1, 3, none⟩) (QIn.set (p := ⟨b + 1, 2, none⟩) (QIn.set (p := ⟨b + 1, 1, none⟩) (QIn.set (p := ⟨b + 1, 0, none⟩) (HQ.out m hm) (l1 0) _) (l1 1) _) (l1 2) _) (l1 3) _) (l1 4) _) (l1 5) _
      · repeat (refine Fresh.setCell ?_ (by have := HBW.out; simp; omega) _)
        exact HS.out.fr
end Go.Proofs.YtldncgelghcjeaaGreatDoor
namespace Go.Proofs.YtldncgelghcjeaaGreatDoor
theorem default_any (p : PM) (w : World) (h : p.At w) (hl : p.Low) : Calls Tryz.prog 82 #[p.val] w fun e w' => ∃ q : PM, e = .returned q.val ∧ q.pd = defP p.pd ∧ QAt w' w.heap.size q ∧ Fresh w w' := by
  obtain ⟨name, ns, rs, gr, ho, a, cap, cs⟩ := p
  have fin : ∀ (e : Ending) (w' : World), (∃ (a' : Option Addr) (cap' : Nat) (D : List CM), e = .returned (.agg #[.string name, .string (if ns.size = 0 then nsDef else ns), .int .i64 rs, .int .i64 (if gr = 0 then 30 else gr), .bool ho, .slice a' cs.length cap']) ∧ D.length = cs.length ∧ D.map (·.c) = cs.map (fun m => defC m.c) ∧ w'.ownsRow w.heap.size 126 7 (.slice a' cs.length cap') cs.length (ccells D) ∧ (∀ m ∈ D, QIn w' w.heap.size m) ∧ Fresh w w') →
      ∃ q : PM, e = .returned q.val ∧ q.pd = defP (PM.mk name ns rs gr ho a cap cs).pd ∧ QAt w' w.heap.size q ∧ Fresh w w' := by
    rintro e w' ⟨a', cap', D, rfl, h1, h2, h3, h4, h5⟩
    refine ⟨⟨name, if ns.size = 0 then nsDef else ns, rs, if gr = 0 then 30 else gr, ho, a', cap', D⟩, ?_, ?_, ⟨?_, h4⟩, h5⟩
    · show _ = Ending.returned (.agg #[_, _, _, _, _, .slice a' D.length cap'])
      rw [h1]
    · unfold PM.pd defP
      simp only [List.map_map]
      rw [h2]; rfl
    · show w'.ownsRow _ _ _ (.slice a' D.length cap') D.length (ccells D)
      rw [h1]; exact h3
  by_cases hns : ns = ⟨#[]⟩
  · exact (pdef_A name ns rs gr ho a cap cs w h.row h.ins hl.cs hl.len hl.name hl.ns hns).mono fin
  · exact (pdef_B name ns rs gr ho a cap cs w h.row h.ins hl.cs hl.len hl.name hl.ns hns).mono fin
end Go.Proofs.YtldncgelghcjeaaGreatDoor
namespace Go.Proofs.YtldncgelghcjeaaGreatDoor
open Go.ChangeShapes Go.WideShapes Go.ChangeAt Go.RowKit
attribute [local go_sem ↓] Go.wp_at_zero Go.wp_at_succ
variable {w : World}

/-! ### what Unquote reads -/
/-- A piece of a quoted text, and what it says. -/
def Item (p m : List UInt8) : Prop := (∃ c cs, p = c :: cs ∧ c.toNat ≠ 34) ∧ ∀ (b : Nat) (rest : List UInt8) (v : Value) (text : List UInt8) (w : World), Tabs w → text.length ≤ 100000 → Rdr w b (p ++ rest) v text → Calls Tryz.prog 147 #[.pointer (some ⟨b, 0, none⟩)] w (Reads w b rest (text ++ m) 0)
/-- Such pieces, one behind the other. -/
inductive Un : List UInt8 → List UInt8 → Prop
  | nil : Un [] []
  | step (p m src out : List UInt8) : Item p m → Un src out → Un (p ++ src) (m ++ out)
/-- What Unquote answers. -/
def unqRes (src out : List UInt8) : Ending := if out.length ≤ 4096 then .returned (.tuple #[.string (bs out), .int .i64 ((src.length : Int) + 2), .int .i64 0]) else .returned (.tuple #[.string ⟨#[]⟩, .int .i64 0, .int .i64 2])
def restLen (w : World) (b : Nat) : Nat := match w.cell? ⟨b, 0, none⟩ with
  | some (.string s) => s.size
  | _ => 0
theorem Rdr.restLen {w : World} {b : Nat} {rest : List UInt8} {v : Value} {text : List UInt8} (h : Rdr w b rest v text) : YtldncgelghcjeaaGreatDoor.restLen w b = rest.length := by
  rw [YtldncgelghcjeaaGreatDoor.restLen, h.c0]
  exact bs_size rest
set_option maxRecDepth 100000 in
set_option maxHeartbeats 4000000 in
theorem unquote_any (src out behind : List UInt8) (w : World) (hU : Un src out) (ho : out.length ≤ 100000) (hs : src.length + behind.length ≤ 1000000) (hT : Tabs w) :
    Calls Tryz.prog 119 #[.string (bs (34 :: (src ++ 34 :: behind)))] w fun e w' => e = unqRes src out ∧ Fresh w w' := by
  have HU := Lib.hid hU
  have HT := Lib.hid hT
  have HZ : Hid ((bs (34 :: (src ++ 34 :: behind))).size = src.length + behind.length + 2) := by rw [Hid, bs_size]; simp; omega
  obtain ⟨p1, p2, p3, p4⟩ := bs_cons 34 (src ++ 34 :: behind)
  generalize bs (34 :: (src ++ 34 :: behind)) = r at *
  have H0 : Hid (Rdr (w.alloc (.cells #[.string (bs (src ++ 34 :: behind)), .slice none 0 0] 216)) w.heap.size (src ++ 34 :: behind) (.slice none 0 0) []) :=
    ⟨at_new w _, World.ownsRow_nil _ _ _ _⟩
  have HF0 := Lib.hid ((Fresh.refl w).alloc (.cells #[.string (bs (src ++ 34 :: behind)), .slice none 0 0] 216))
  generalize bs (src ++ 34 :: behind) = r1 at *
  clear hU hT
  go_enter Tryz.func119, Tryz.ntmps119
  go_wp2
  go_loopw [4] (fun a4 wr => a4 = .int .i64 0 ∧ ∃ (t1 src2 out2 : List UInt8) (v : Value), Hid (Un src2 out2) ∧ Hid (out = t1 ++ out2) ∧ Hid (Rdr wr w.heap.size (src2 ++ 34 :: behind) v t1) ∧ Hid (Fresh w wr)) (fun _ wr => restLen wr w.heap.size)
  case atStart => exact ⟨rfl, [], src, out, .slice none 0 0, HU.out, rfl, H0.out, HF0.out⟩
  case round =>
    obtain ⟨rfl, t1, src2, out2, v, HU2, HO, HR, HF⟩ := hrel
    clear H0 HF0
    have hu := HU2.out
    rcases hu with _ | ⟨p, m, src3, out3, hi, hu3⟩
    · have HR2 : Hid (Rdr wr w.heap.size (34 :: behind) v t1) := HR.out
      have HO2 : Hid (out = t1) := by rw [Hid, HO.out, List.append_nil]
      clear HU2 HO HR
      go_wp2_with fail
      refine (mark_yes _ behind v t1 _ HR2.out).mono ?_
      rintro e w' ⟨rfl, rfl⟩
      have c0 := HR2.out.c0
      have c1 := HR2.out.c1
      have hb1 : r.size ≤ 1000002 := by rw [HZ.out]; omega
      have HZ2 : Hid ((bs (34 :: behind)).size = behind.length + 1) := by rw [Hid, bs_size]; rfl
      have hb2 : (bs (34 :: behind)).size ≤ 1000001 := by rw [HZ2.out]; omega
      have hb3 : (bs (34 :: behind)).size ≤ r.size := by rw [HZ2.out, HZ.out]; omega
      have HEQ : Hid ((r.size : Int) - ((bs (34 :: behind)).size : Int) + 1 = (src.length : Int) + 2) := by rw [Hid, HZ.out, HZ2.out]; omega
      generalize bs (34 :: behind) = r2 at *
      have hbuf := HR2.out.buf
      rcases hbuf with ⟨hl, ⟨rfl, hl0⟩ | ⟨g, cap, cur, rfl, hg1, hg2, hg3, hg4, hg5, hg6⟩⟩
      · obtain rfl : t1 = [] := by cases t1 with
          | nil => rfl
          | cons => simp at hl0
        have hcv := text_nil wr.drew
        clear hl hl0
        have HE : Hid (unqRes src out = .returned (.tuple #[.string (bs out), .int .i64 ((src.length : Int) + 2), .int .i64 0])) := by rw [Hid, unqRes, if_pos (by rw [HO2.out]; simp)]
        go_wp2
        have w1 : IntKind.i64.wrap ((r.size : Int) - (r2.size : Int)) = (r.size : Int) - (r2.size : Int) := IntWalk.i64_in _ (by omega)
        have w2 : IntKind.i64.wrap ((r.size : Int) - (r2.size : Int) + 1) = (r.size : Int) - (r2.size : Int) + 1 := IntWalk.i64_in _ (by omega)
        go_region_held3 (fun w' => (w'.cell? ⟨w.heap.size, 0, none⟩ = some (.string r2) ∧ w'.cell? ⟨w.heap.size, 1, none⟩ = some (.slice none 0 0) ∧ (convert 98 9 (.slice none 0 0)).run Tryz.prog w' = .ok (.string ⟨#[]⟩) w')) (go_keep) ((fail))
        all_goals
          go_wp2
          refine bodyPost_ret (v := .tuple #[.string (bs []), .int .i64 ((r.size : Int) - (r2.size : Int) + 1), .int .i64 0]) (by simp [results, Tryz.results119, go_sem, bs]) rfl ⟨?_, HF.out.drew⟩
          rw [HE.out, HO2.out, HEQ.out]
      · have hcv : (convert 98 9 (.slice (some ⟨g, 0, none⟩) t1.length cap)).run Tryz.prog wr.drew = .ok (.string (bs t1)) wr.drew := (Buf.text HR2.out.buf.drew).2
        clear hl hg1 hg2 hg3 hg4 hg5 hg6
        by_cases h4 : t1.length ≤ 4096
        · have h4' : ¬ 4096 < t1.length := by omega
          have HE : Hid (unqRes src out = .returned (.tuple #[.string (bs out), .int .i64 ((src.length : Int) + 2), .int .i64 0])) := by rw [Hid, unqRes, if_pos (by rw [HO2.out]; exact h4)]
          go_wp2
          have w1 : IntKind.i64.wrap ((r.size : Int) - (r2.size : Int)) = (r.size : Int) - (r2.size : Int) := IntWalk.i64_in _ (by omega)
          have w2 : IntKind.i64.wrap ((r.size : Int) - (r2.size : Int) + 1) = (r.size : Int) - (r2.size : Int) + 1 := IntWalk.i64_in _ (by omega)
          go_region_held3 (fun w' => (w'.cell? ⟨w.heap.size, 0, none⟩ = some (.string r2) ∧ w'.cell? ⟨w.heap.size, 1, none⟩ = some (.slice (some ⟨g, 0, none⟩) t1.length cap) ∧ (convert 98 9 (.slice (some ⟨g, 0, none⟩) t1.length cap)).run Tryz.prog w' = .ok (.string (bs t1)) w')) (go_keep) ((fail))
          all_goals
            go_wp2
            refine bodyPost_ret (v := .tuple #[.string (bs t1), .int .i64 ((r.size : Int) - (r2.size : Int) + 1), .int .i64 0]) (by simp [results, Tryz.results119, go_sem]) rfl ⟨?_, HF.out.drew⟩
            rw [HE.out, HO2.out, HEQ.out]
        · have h4' : 4096 < t1.length := by omega
          have HE : Hid (unqRes src out = .returned (.tuple #[.string ⟨#[]⟩, .int .i64 0, .int .i64 2])) := by rw [Hid, unqRes, if_neg (by rw [HO2.out]; exact h4)]
          go_wp2
          refine bodyPost_ret (v := .tuple #[.string ⟨#[]⟩, .int .i64 0, .int .i64 2]) (by simp [results, Tryz.results119, go_sem]) rfl ⟨?_, HF.out⟩
          rw [HE.out]
    · obtain ⟨⟨c, cs, rfl, hc⟩, hI⟩ := hi
      have HR2 : Hid (Rdr wr w.heap.size ((c :: cs) ++ (src3 ++ 34 :: behind)) v t1) := by rw [Hid, ← List.append_assoc]; exact HR.out
      have HO2 : Hid (out = (t1 ++ m) ++ out3) := by rw [Hid, HO.out, List.append_assoc]
      have HI := Lib.hid (hI w.heap.size (src3 ++ 34 :: behind) v t1 wr (HT.out.move HF.out) (by have := congrArg List.length HO.out; rw [List.length_append] at this; omega) HR2.out)
      have HU3 := Lib.hid hu3
      have HM : Hid (restLen wr w.heap.size = ((c :: cs) ++ (src3 ++ 34 :: behind)).length) := HR2.out.restLen
      clear HU2 hu3 hI HR
      go_wp2_with fail
      refine (mark_no _ c (cs ++ (src3 ++ 34 :: behind)) v t1 _ hc HR2.out).mono ?_
      rintro e w' ⟨rfl, rfl⟩
      go_wp2_with fail
      refine HI.out.mono ?_
      rintro e w2 ⟨rfl, ⟨v2, hr2⟩, hb2⟩
      have HR3 := Lib.hid hr2
      have HF3 := Lib.hid (HF.out.below hb2 (Nat.le_refl _))
      clear hr2 hb2
      go_wp2
      go_roundw
      case rel => exact ⟨rfl, t1 ++ m, src3, out3, v2, HU3.out, HO2.out, HR3.out, HF3.out⟩
      case measure => rw [HM.out, HR3.out.restLen]; simp; omega
end Go.Proofs.YtldncgelghcjeaaGreatDoor
namespace Go.Proofs.YtldncgelghcjeaaGreatDoor
open Go.Lib
theorem dec2 (n c b1 b2 b3 : Nat) (hn : 2 ≤ n) (hc : 194 ≤ c) (hc2 : c < 224) (h1 : 128 ≤ b1) (h2 : b1 ≤ 191) : (decodeN n c b1 b2 b3).2 = 2 := by
  rw [decodeN, if_neg (by omega), if_pos (by omega), if_pos (by omega)]
theorem dec3 (n c b1 b2 b3 : Nat) (hn : 3 ≤ n) (hc : 224 ≤ c) (hc2 : c < 240) (h1 : 128 ≤ b1) (h2 : b1 ≤ 191) (h3 : 128 ≤ b2) (h4 : b2 ≤ 191) (e1 : c = 224 → 160 ≤ b1) (e2 : c = 237 → b1 ≤ 159) : (decodeN n c b1 b2 b3).2 = 3 := by
  rw [decodeN, if_neg (by omega), if_neg (by omega), if_pos (by omega), if_pos (by omega)]
theorem dec4 (n c b1 b2 b3 : Nat) (hn : 4 ≤ n) (hc : 240 ≤ c) (hc2 : c < 245) (h1 : 128 ≤ b1) (h2 : b1 ≤ 191) (h3 : 128 ≤ b2) (h4 : b2 ≤ 191) (h5 : 128 ≤ b3) (h6 : b3 ≤ 191) (e1 : c = 240 → 144 ≤ b1) (e2 : c = 244 → b1 ≤ 143) : (decodeN n c b1 b2 b3).2 = 4 := by
  rw [decodeN, if_neg (by omega), if_neg (by omega), if_neg (by omega), if_pos (by omega), if_pos (by omega)]
theorem dec_bs (l : List UInt8) (h : l ≠ []) : decodeGo (bs l) = decodeN l.length (l.getD 0 0).toNat (l.getD 1 0).toNat (l.getD 2 0).toNat (l.getD 3 0).toNat := by
  have hs : (bs l).size ≠ 0 := by rw [bs_size]; exact fun e => h (List.eq_nil_of_length_eq_zero e)
  have g : ∀ i, (bs l).get! i = l.getD i 0 := fun i => by
    simp [bs, ByteArray.get!, List.getD_eq_getElem?_getD]
    rfl
  rw [decodeGo, if_neg hs, decode_at, Nat.sub_zero, bs_size, g, g, g, g]
/-- A character's bytes behind its first one. -/
structure Tail (c : UInt8) (cs : List UInt8) : Prop where
  high : ∀ b ∈ cs, 128 ≤ b.toNat
  valid : validD (c :: cs) = true
  len : cs.length ≤ 3
  dec : ∀ rest, (decodeGo (bs (c :: cs ++ rest))).2 = (c :: cs).length
theorem cont1 {l : List UInt8} {lo hi : Nat} (h : contOK l 1 lo hi = true) : ∃ a l2, l = a :: l2 ∧ lo ≤ a.toNat ∧ a.toNat ≤ hi := by
  cases l with
  | nil => simp [contOK] at h
  | cons a l2 => simp [contOK] at h; exact ⟨a, l2, rfl, h⟩
theorem cont2 {l : List UInt8} {lo hi : Nat} (h : contOK l 2 lo hi = true) : ∃ a b l2, l = a :: b :: l2 ∧ (lo ≤ a.toNat ∧ a.toNat ≤ hi) ∧ 128 ≤ b.toNat ∧ b.toNat ≤ 191 := by
  rcases l with _ | ⟨a, _ | ⟨b, l2⟩⟩
  · simp [contOK] at h
  · simp [contOK] at h
  · simp [contOK] at h; exact ⟨a, b, l2, rfl, h.1, h.2⟩
theorem cont3 {l : List UInt8} {lo hi : Nat} (h : contOK l 3 lo hi = true) : ∃ a b d l2, l = a :: b :: d :: l2 ∧ (lo ≤ a.toNat ∧ a.toNat ≤ hi) ∧ (128 ≤ b.toNat ∧ b.toNat ≤ 191) ∧ 128 ≤ d.toNat ∧ d.toNat ≤ 191 := by
  rcases l with _ | ⟨a, _ | ⟨b, _ | ⟨d, l2⟩⟩⟩
  · simp [contOK] at h
  · simp [contOK] at h
  · simp [contOK] at h
  · simp [contOK] at h; exact ⟨a, b, d, l2, rfl, h.1, h.2.1, h.2.2⟩
theorem tail1 {c a : UInt8} (h0 : 194 ≤ c.toNat) (h1 : c.toNat < 224) (h2 : 128 ≤ a.toNat) (h3 : a.toNat ≤ 191) (hv : validD [c, a] = true) : Tail c [a] :=
  ⟨by simp; omega, hv, by simp, fun rest => by
    rw [dec_bs _ (by simp)]
    exact dec2 _ _ _ _ _ (by simp) h0 h1 h2 h3⟩
theorem tail2 {c a b : UInt8} (h0 : 224 ≤ c.toNat) (h1 : c.toNat < 240) (h2 : 128 ≤ a.toNat) (h3 : a.toNat ≤ 191) (h4 : 128 ≤ b.toNat) (h5 : b.toNat ≤ 191) (e1 : c.toNat = 224 → 160 ≤ a.toNat) (e2 : c.toNat = 237 → a.toNat ≤ 159) (hv : validD [c, a, b] = true) : Tail c [a, b] :=
  ⟨by simp; omega, hv, by simp, fun rest => by
    rw [dec_bs _ (by simp)]
    exact dec3 _ _ _ _ _ (by simp) h0 h1 h2 h3 h4 h5 e1 e2⟩
theorem tail3 {c a b d : UInt8} (h0 : 240 ≤ c.toNat) (h1 : c.toNat < 245) (h2 : 128 ≤ a.toNat) (h3 : a.toNat ≤ 191) (h4 : 128 ≤ b.toNat) (h5 : b.toNat ≤ 191) (h6 : 128 ≤ d.toNat) (h7 : d.toNat ≤ 191) (e1 : c.toNat = 240 → 144 ≤ a.toNat) (e2 : c.toNat = 244 → a.toNat ≤ 143) (hv : validD [c, a, b, d] = true) : Tail c [a, b, d] :=
  ⟨by simp; omega, hv, by simp, fun rest => by
    rw [dec_bs _ (by simp)]
    exact dec4 _ _ _ _ _ (by simp) h0 h1 h2 h3 h4 h5 h6 h7 e1 e2⟩
theorem split1 {c : UInt8} {l : List UInt8} {lo hi : Nat} (hc : 128 ≤ c.toNat) (h0 : 194 ≤ c.toNat) (h1 : c.toNat < 224) (hlo : 128 ≤ lo) (hhi : hi ≤ 191) (k1 : firstT c.toNat % 8 = 1 + 1) (k2 : accLo (firstT c.toNat / 16) = lo) (k3 : accHi (firstT c.toNat / 16) = hi) (hv : validD (c :: l) = true) : ∃ cs l2, l = cs ++ l2 ∧ Tail c cs ∧ validD l2 = true := by
  rw [valid_lead c l 1 lo hi hc (.inl rfl) k1 k2 k3, Bool.and_eq_true] at hv
  obtain ⟨a, l2, rfl, ha1, ha2⟩ := cont1 hv.1
  refine ⟨[a], l2, rfl, tail1 h0 h1 (by omega) (by omega) ?_, hv.2⟩
  rw [valid_lead c [a] 1 lo hi hc (.inl rfl) k1 k2 k3]
  simp [contOK, ha1, ha2, validD_nil]
theorem split2 {c : UInt8} {l : List UInt8} {lo hi : Nat} (hc : 128 ≤ c.toNat) (h0 : 224 ≤ c.toNat) (h1 : c.toNat < 240) (hlo : 128 ≤ lo) (hhi : hi ≤ 191) (e1 : c.toNat = 224 → 160 ≤ lo) (e2 : c.toNat = 237 → hi ≤ 159) (k1 : firstT c.toNat % 8 = 2 + 1) (k2 : accLo (firstT c.toNat / 16) = lo) (k3 : accHi (firstT c.toNat / 16) = hi) (hv : validD (c :: l) = true) : ∃ cs l2, l = cs ++ l2 ∧ Tail c cs ∧ validD l2 = true := by
  rw [valid_lead c l 2 lo hi hc (.inr (.inl rfl)) k1 k2 k3, Bool.and_eq_true] at hv
  obtain ⟨a, b, l2, rfl, ⟨ha1, ha2⟩, hb1, hb2⟩ := cont2 hv.1
  refine ⟨[a, b], l2, rfl, tail2 h0 h1 (by omega) (by omega) hb1 hb2 (fun e => by have := e1 e; omega) (fun e => by have := e2 e; omega) ?_, hv.2⟩
  rw [valid_lead c [a, b] 2 lo hi hc (.inr (.inl rfl)) k1 k2 k3]
  simp [contOK, ha1, ha2, hb1, hb2, validD_nil]
theorem split3 {c : UInt8} {l : List UInt8} {lo hi : Nat} (hc : 128 ≤ c.toNat) (h0 : 240 ≤ c.toNat) (h1 : c.toNat < 245) (hlo : 128 ≤ lo) (hhi : hi ≤ 191) (e1 : c.toNat = 240 → 144 ≤ lo) (e2 : c.toNat = 244 → hi ≤ 143) (k1 : firstT c.toNat % 8 = 3 + 1) (k2 : accLo (firstT c.toNat / 16) = lo) (k3 : accHi (firstT c.toNat / 16) = hi) (hv : validD (c :: l) = true) : ∃ cs l2, l = cs ++ l2 ∧ Tail c cs ∧ validD l2 = true := by
  rw [valid_lead c l 3 lo hi hc (.inr (.inr rfl)) k1 k2 k3, Bool.and_eq_true] at hv
  obtain ⟨a, b, d, l2, rfl, ⟨ha1, ha2⟩, ⟨hb1, hb2⟩, hd1, hd2⟩ := cont3 hv.1
  refine ⟨[a, b, d], l2, rfl, tail3 h0 h1 (by omega) (by omega) hb1 hb2 hd1 hd2 (fun e => by have := e1 e; omega) (fun e => by have := e2 e; omega) ?_, hv.2⟩
  rw [valid_lead c [a, b, d] 3 lo hi hc (.inr (.inr rfl)) k1 k2 k3]
  simp [contOK, ha1, ha2, hb1, hb2, hd1, hd2, validD_nil]
theorem lead_split (c : UInt8) (l : List UInt8) (hc : 128 ≤ c.toNat) (hv : validD (c :: l) = true) : ∃ cs l2, l = cs ++ l2 ∧ Tail c cs ∧ validD l2 = true := by
  have c0 : ¬ c.toNat < 128 := by omega
  by_cases c1 : c.toNat < 194
  · rw [valid_bad c l hc (by simp [firstT, c0, c1])] at hv; cases hv
  by_cases c2 : c.toNat < 224
  · exact split1 hc (by omega) c2 (Nat.le_refl 128) (Nat.le_refl 191) (by simp [firstT, c0, c1, c2]) (by simp [firstT, accLo, c0, c1, c2]) (by simp [firstT, accHi, c0, c1, c2]) hv
  by_cases c3 : c.toNat = 224
  · exact split2 (lo := 160) (hi := 191) hc (by omega) (by omega) (by omega) (by omega) (by omega) (by omega) (by rw [c3]; decide) (by rw [c3]; decide) (by rw [c3]; decide) hv
  by_cases c4 : c.toNat < 237
  · exact split2 (lo := 128) (hi := 191) hc (by omega) (by omega) (by omega) (by omega) (by omega) (by omega) (by simp [firstT, c0, c1, c2, c3, c4]) (by simp [firstT, accLo, c0, c1, c2, c3, c4]) (by simp [firstT, accHi, c0, c1, c2, c3, c4]) hv
  by_cases c5 : c.toNat = 237
  · exact split2 (lo := 128) (hi := 159) hc (by omega) (by omega) (by omega) (by omega) (by omega) (by omega) (by rw [c5]; decide) (by rw [c5]; decide) (by rw [c5]; decide) hv
  by_cases c6 : c.toNat < 240
  · exact split2 (lo := 128) (hi := 191) hc (by omega) (by omega) (by omega) (by omega) (by omega) (by omega) (by simp [firstT, c0, c1, c2, c3, c4, c5, c6]) (by simp [firstT, accLo, c0, c1, c2, c3, c4, c5, c6]) (by simp [firstT, accHi, c0, c1, c2, c3, c4, c5, c6]) hv
  by_cases c7 : c.toNat = 240
  · exact split3 (lo := 144) (hi := 191) hc (by omega) (by omega) (by omega) (by omega) (by omega) (by omega) (by rw [c7]; decide) (by rw [c7]; decide) (by rw [c7]; decide) hv
  by_cases c8 : c.toNat < 244
  · exact split3 (lo := 128) (hi := 191) hc (by omega) (by omega) (by omega) (by omega) (by omega) (by omega) (by simp [firstT, c0, c1, c2, c3, c4, c5, c6, c7, c8]) (by simp [firstT, accLo, c0, c1, c2, c3, c4, c5, c6, c7, c8]) (by simp [firstT, accHi, c0, c1, c2, c3, c4, c5, c6, c7, c8]) hv
  by_cases c9 : c.toNat = 244
  · exact split3 (lo := 128) (hi := 143) hc (by omega) (by omega) (by omega) (by omega) (by omega) (by omega) (by rw [c9]; decide) (by rw [c9]; decide) (by rw [c9]; decide) hv
  · rw [valid_bad c l hc (by simp [firstT, c0, c1, c2, c3, c4, c5, c6, c7, c8, c9])] at hv; cases hv
end Go.Proofs.YtldncgelghcjeaaGreatDoor
