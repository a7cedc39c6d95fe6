/-
  A pod with its defaults, by package spec: walked (printed by a script: an empty namespace, or not).
  A pod with its defaults, by package spec: walked (printed by a script: an empty namespace, or not).
  A pod with its defaults, by package spec: for every pod.
  DERIVED: THE SHELF's CONTRACTS AT THIS DUMP, IN PLAIN WORDS (tools/lay-plain.mjs out of 'TrydShelf.lean', which tools/lay-shelf.mjs wrote): THE SAME DECLARATIONS UNDER THE SAME NAMES: 'import', 'namespace', 'open', 'def', 'theorem' AND NOTHING ELSE: no command of the shelf's: FOR A HAND-IN. Each laying: the table of numbers ('.._ren') and one theorem, a field a fact of the dump's own or the kernel's comparison; each contract: ONE APPLICATION.
-/
import Derived.Test.YtfhhmajkacjbgaaDoorDck02
import Derived.Deep.Cut
import Derived.Shelf.Small.Strs
import Derived.Shelf.Unicode.DecodeAny
import Derived.Shelf.Unicode.ValidAny
import Derived.Shelf.Utf8.AppendRunePlain
import Derived.Shelf.Strings.Search2
import Derived.Test.YtfhhmajkacjbgaaDoorProg
import Derived.Ground.NamesProg
namespace Go.Proofs.YtfhhmajkacjbgaaDoor
open Go.ChangeShapes Go.WideShapes Go.ChangeAt Go.RowKit
attribute [local go_sem ↓] Go.wp_at_zero Go.wp_at_succ

set_option maxRecDepth 100000 in
set_option maxHeartbeats 4000000 in
theorem pdef_A (name ns : ByteArray) (rs gr : Int) (ho : Bool) (a : Option Addr) (cap : Nat) (cs : List CM) (w : World) (hr : RowAt w a (ccells cs)) (hin : ∀ m ∈ cs, m.In w) (hlw : ∀ m ∈ cs, m.c.Low) (hl : cs.length ≤ 1048576) (hn1 : name.size ≤ 1048576) (hn2 : ns.size ≤ 1048576) (hns : ns = ⟨#[]⟩) :
    Calls Tryd.prog 12 #[.agg #[.string name, .string ns, .int .i64 rs, .int .i64 gr, .bool ho, .slice a cs.length cap]] w fun e w' => ∃ (a' : Option Addr) (cap' : Nat) (D : List CM), e = .returned (.agg #[.string name, .string (if ns.size = 0 then nsDef else ns), .int .i64 rs, .int .i64 (if gr = 0 then 30 else gr), .bool ho, .slice a' cs.length cap']) ∧ D.length = cs.length ∧ D.map (·.c) = cs.map (fun m => defC m.c) ∧ w'.ownsRow w.heap.size 53 7 (.slice a' cs.length cap') cs.length (ccells D) ∧ (∀ m ∈ D, QIn w' w.heap.size m) ∧ Fresh w w' := by
  have HROW := Lib.hid hr
  have HINS := Lib.hid hin
  have HLW := Lib.hid hlw
  have HK0 := Lib.hid (fun W => clone_any name W (by omega))
  have HK1 := Lib.hid (fun W => clone_any ns W (by omega))
  have HOE := Lib.hid (fun W => orElse_any gr 30 W)
  have HCC := Lib.hid (fun W (f : Fresh w W) => cloneC_any cs a cap W (HROW.out.move f) hl)
  obtain ⟨ns2, hns2⟩ : ∃ s, s = if ns.size = 0 then nsDef else ns := ⟨_, rfl⟩
  rw [← hns2]
  generalize (if gr = 0 then (30 : Int) else gr) = gr2 at *
  have hN : ns2 = nsDef := hns2.trans (by rw [hns]; rfl)
  subst hns
  clear hns2
  clear hr hin hlw hn1 hn2 HROW
  have hst := PDS.start (w := w) (s0 := name) (s1 := ⟨#[]⟩) (n2 := rs) (n3 := gr) (b4 := ho) (v5 := .slice a cs.length cap)
  have HST := Lib.hid hst
  clear hst
  go_enter Tryd.func12, Tryd.ntmps12
  go_wp2_with (fail)
  generalize (w.alloc (.cells #[.string name, .string ⟨#[]⟩, .int .i64 rs, .int .i64 gr, .bool ho, .slice a cs.length cap] 25)).alloc (.cells #[.string ⟨#[]⟩, .string ⟨#[]⟩, .int .i64 0, .int .i64 0, .bool false, .slice none 0 0] 25) = W0 at *
  obtain ⟨b, hb⟩ : ∃ b, b = w.heap.size := ⟨_, rfl⟩
  have HBW := Lib.hid hb
  rw [← hb] at HST ⊢
  clear hb
  refine (HK0.out W0).mono ?_
  rintro e W1 ⟨rfl, hf⟩
  have HS1 := Lib.hid (HST.out.go hf)
  clear hf HST
  obtain ⟨⟨q0, q1, q2, q3, q4, q5⟩, fz⟩ := HS1.out.cells
  have f0 := fz 0
  clear fz q2 q3 q4 q5
  go_wp2_with (fail)
  have HS2 := Lib.hid (HS1.out.set0 name)
  generalize W1.setCell ⟨b, 0, none⟩ (.string name) = W2 at *
  clear HS1 q0 q1 f0
  refine (HK1.out W2).mono ?_
  rintro e W3 ⟨rfl, hf⟩
  have HS3 := Lib.hid (HS2.out.go hf)
  clear hf HS2
  obtain ⟨⟨q0, q1, q2, q3, q4, q5⟩, fz⟩ := HS3.out.cells
  have f0 := fz 1
  clear fz q0 q2 q4 q5
  go_wp2_with (fail)
  have HS4 : Hid (PDS w ((W3.setCell ⟨b, 1, none⟩ (.string ⟨#[]⟩)).setCell ⟨b, 1, none⟩ (.string ⟨#[100, 101, 102, 97, 117, 108, 116]⟩)) b name ns2 rs gr ho (.slice a cs.length cap)) := by
    rw [hN]
    exact (HS3.out.set1 _).set1 _
  generalize (W3.setCell ⟨b, 1, none⟩ (.string ⟨#[]⟩)).setCell ⟨b, 1, none⟩ (.string ⟨#[100, 101, 102, 97, 117, 108, 116]⟩) = W4 at *
  clear hN
  clear HS3 q1 q3 f0
  refine (HOE.out W4).mono ?_
  rintro e W4' ⟨rfl, rfl⟩
  obtain ⟨⟨q0, q1, q2, q3, q4, q5⟩, fz⟩ := HS4.out.cells
  have f0 := fz 3
  clear fz q0 q1 q2 q4
  go_wp2_with (fail)
  have HS5 := Lib.hid (HS4.out.set3 gr2)
  generalize W4.setCell ⟨b, 3, none⟩ (.int .i64 gr2) = W5 at *
  clear HS4 q3 q5 f0
  refine (HCC.out W5 HS5.out.fr).mono ?_
  rintro e W6 ⟨a2, cap2, rfl, hown, hf⟩
  have HS6 := Lib.hid (HS5.out.go hf)
  have HO6 := Lib.hid (World.ownsRow.mono hown HS5.out.sz)
  clear hf HS5 hown
  obtain ⟨⟨q0, q1, q2, q3, q4, q5⟩, fz⟩ := HS6.out.cells
  have f0 := fz 5
  clear fz q0 q1 q2 q3 q4
  go_wp2_with (fail)
  have HS7 := Lib.hid (HS6.out.set5 (.slice a2 cs.length cap2))
  have HO7 := Lib.hid (own_set' (p := ⟨b, 5, none⟩) HO6.out (by show b < b + 2; omega) (.slice a2 cs.length cap2))
  dsimp only at HO7
  generalize W6.setCell ⟨b, 5, none⟩ (.slice a2 cs.length cap2) = W7 at *
  clear HS6 HO6 q5 f0
  go_loopw [28] (fun a28 wr => ∃ (k : Nat) (D : List CM), a28 = .int .i64 (k : Int) ∧ k ≤ cs.length ∧ Hid (D.length = k ∧ D.map (·.c) = (cs.take k).map (fun m => defC m.c)) ∧ Hid (PDS w wr b name ns2 rs gr2 ho (.slice a2 cs.length cap2)) ∧ Hid (wr.ownsRow (b + 2) 53 7 (.slice a2 cs.length cap2) cs.length (ccells (D ++ cs.drop k))) ∧ Hid (∀ m ∈ D, QIn wr (b + 2) m)) (fun a28 _ => cs.length - (intOf a28).toNat)
  case atStart => exact ⟨0, [], rfl, Nat.zero_le _, ⟨rfl, rfl⟩, HS7.out, HO7.out, fun m hm => absurd hm List.not_mem_nil⟩
  case round =>
    obtain ⟨k, D, rfl, hk, HD, HS, HO, HQ⟩ := hrel
    by_cases hlt : k < cs.length
    · obtain ⟨g, rfl, hgb, hnc⟩ := own_form HO.out hlt
      have hsp : D ++ cs.drop k = D ++ cs[k] :: cs.drop (k + 1) := by rw [List.drop_eq_getElem_cons hlt]
      have hcell : ∀ i v, i < 7 → cs[k].cells[i]? = some v → wr.cell? ⟨g, k * 7 + i, none⟩ = some v := fun i v hi hv => by
        rw [World.ownsRow.cellAt HO.out (k * 7 + i) (by omega)]
        have hlen : k < (D ++ cs.drop k).length := by rw [List.length_append, List.length_drop, HD.out.1]; omega
        have h1 := flat_get CM.cells 7 (fun _ => rfl) (D ++ cs.drop k) k hlen i hi
        have h2 : (D ++ cs.drop k)[k] = cs[k] := by
          rw [List.getElem_append_right (by rw [HD.out.1]; exact Nat.le_refl _)]
          simp [HD.out.1]
        rw [h2, hv] at h1
        exact h1
      have c0 := hcell 0 _ (by omega) rfl
      have c1 := hcell 1 _ (by omega) rfl
      have c2 := hcell 2 _ (by omega) rfl
      have c3 := hcell 3 _ (by omega) rfl
      have c4 := hcell 4 _ (by omega) rfl
      have c5 := hcell 5 _ (by omega) rfl
      have c6 := hcell 6 _ (by omega) rfl
      clear hcell
      rw [Nat.add_zero] at c0
      have HWD : Hid (∀ W, Fresh wr W → Calls Tryd.prog 39 #[cs[k].val] W fun e w' => ∃ n : CM, e = .returned n.val ∧ n.c = defC cs[k].c ∧ QIn w' W.heap.size n ∧ Fresh W w') := fun W f =>
        wd_any cs[k] W (((HINS.out _ (List.getElem_mem hlt)).move HS.out.fr).move f) (HLW.out _ (List.getElem_mem hlt))
      have HTK : Hid ((cs.take (k + 1)).map (fun m => defC m.c) = (cs.take k).map (fun m => defC m.c) ++ [defC cs[k].c]) := by
        rw [Hid, List.take_succ_eq_append_getElem hlt, List.map_append]; rfl
      have HSET : Hid (∀ n : CM, ccells ((D ++ cs.drop k).set k n) = ccells ((D ++ [n]) ++ cs.drop (k + 1))) := fun n => by
        rw [hsp, mid_set HD.out.1]
      have HLEN : Hid (k < (D ++ cs.drop k).length) := by rw [Hid, List.length_append, List.length_drop, HD.out.1]; omega
      clear hsp
      generalize cs[k] = m at *
      obtain ⟨⟨s0, s1, lc, lp, n4, n5, le⟩, ca, cc, pa, pc, ea, ec⟩ := m
      dsimp only [CM.val] at *
      generalize lc.length = z1 at *
      generalize lp.length = z2 at *
      generalize le.length = z3 at *
      have q5 := HS.out.cells.1.2.2.2.2.2
      have i1 : (0 : Int) ≤ (k : Int) := by omega
      have i2 : (k : Int) < (cs.length : Int) := by omega
      have HZ : Hid (g < wr.heap.size) := World.block_lt_of_cell? wr _ c0
      have HAT := Lib.hid (at_new wr (.cells #[.string s0, .string s1, .slice ca z1 cc, .slice pa z2 pc, .int .i64 n4, .int .i64 n5, .slice ea z3 ec] 53))
      have HFA := Lib.hid ((Fresh.refl wr).alloc (.cells #[.string s0, .string s1, .slice ca z1 cc, .slice pa z2 pc, .int .i64 n4, .int .i64 n5, .slice ea z3 ec] 53))
      go_wp2_with (fail)
      all_goals try (exfalso; omega)
      generalize hWW : wr.alloc (.cells #[.string s0, .string s1, .slice ca z1 cc, .slice pa z2 pc, .int .i64 n4, .int .i64 n5, .slice ea z3 ec] 53) = WW at *
      clear hWW
      have HWA : Hid (∀ W, Fresh WW W → (W.cell? ⟨b, 5, none⟩ = some (.slice (some ⟨g, 0, none⟩) cs.length cap2) ∧ W.cell? ⟨wr.heap.size, 0, none⟩ = some (.string s0) ∧ W.cell? ⟨wr.heap.size, 1, none⟩ = some (.string s1) ∧ W.cell? ⟨wr.heap.size, 2, none⟩ = some (.slice ca z1 cc) ∧ W.cell? ⟨wr.heap.size, 3, none⟩ = some (.slice pa z2 pc) ∧ W.cell? ⟨wr.heap.size, 4, none⟩ = some (.int .i64 n4) ∧ W.cell? ⟨wr.heap.size, 5, none⟩ = some (.int .i64 n5) ∧ W.cell? ⟨wr.heap.size, 6, none⟩ = some (.slice ea z3 ec))) := fun W f =>
        ⟨(HFA.out.trans f).cell q5, f.cell (cell_of_at HAT.out rfl), f.cell (cell_of_at HAT.out rfl), f.cell (cell_of_at HAT.out rfl), f.cell (cell_of_at HAT.out rfl), f.cell (cell_of_at HAT.out rfl), f.cell (cell_of_at HAT.out rfl), f.cell (cell_of_at HAT.out rfl)⟩
      have HWC : Hid (∀ W, Fresh WW W → ((W.cell? ⟨g, k * 7, none⟩ = some (.string s0) ∧ W.cell? ⟨g, k * 7 + 1, none⟩ = some (.string s1) ∧ W.cell? ⟨g, k * 7 + 2, none⟩ = some (.slice ca z1 cc) ∧ W.cell? ⟨g, k * 7 + 3, none⟩ = some (.slice pa z2 pc) ∧ W.cell? ⟨g, k * 7 + 4, none⟩ = some (.int .i64 n4) ∧ W.cell? ⟨g, k * 7 + 5, none⟩ = some (.int .i64 n5) ∧ W.cell? ⟨g, k * 7 + 6, none⟩ = some (.slice ea z3 ec)) ∧ (W.frozen? ⟨g, k * 7, none⟩ = false ∧ W.frozen? ⟨g, k * 7 + 1, none⟩ = false ∧ W.frozen? ⟨g, k * 7 + 2, none⟩ = false ∧ W.frozen? ⟨g, k * 7 + 3, none⟩ = false ∧ W.frozen? ⟨g, k * 7 + 4, none⟩ = false ∧ W.frozen? ⟨g, k * 7 + 5, none⟩ = false ∧ W.frozen? ⟨g, k * 7 + 6, none⟩ = false))) := fun W f =>
        have x := own_fresh' HO.out (HFA.out.trans f)
        ⟨⟨(HFA.out.trans f).cell c0, (HFA.out.trans f).cell c1, (HFA.out.trans f).cell c2, (HFA.out.trans f).cell c3, (HFA.out.trans f).cell c4, (HFA.out.trans f).cell c5, (HFA.out.trans f).cell c6⟩, World.ownsRow.frozenAt x _, World.ownsRow.frozenAt x _, World.ownsRow.frozenAt x _, World.ownsRow.frozenAt x _, World.ownsRow.frozenAt x _, World.ownsRow.frozenAt x _, World.ownsRow.frozenAt x _⟩
      have HGO : Hid (∀ (W : World) (n : CM), Fresh WW W → QIn W (b + 2) n → ∀ Z, Z = ((((((W.setCell ⟨g, k * 7, none⟩ (.string n.c.name)).setCell ⟨g, k * 7 + 1, none⟩ (.string n.c.image)).setCell ⟨g, k * 7 + 2, none⟩ (.slice n.ca n.c.cmd.length n.cc)).setCell ⟨g, k * 7 + 3, none⟩ (.slice n.pa n.c.ports.length n.pc)).setCell ⟨g, k * 7 + 4, none⟩ (.int .i64 n.c.cpu)).setCell ⟨g, k * 7 + 5, none⟩ (.int .i64 n.c.mem)).setCell ⟨g, k * 7 + 6, none⟩ (.slice n.ea n.c.env.length n.ec) → PDS w Z b name ns2 rs gr2 ho (.slice (some ⟨g, 0, none⟩) cs.length cap2) ∧ Z.ownsRow (b + 2) 53 7 (.slice (some ⟨g, 0, none⟩) cs.length cap2) cs.length (ccells ((D ++ [n]) ++ cs.drop (k + 1))) ∧ ∀ m ∈ D ++ [n], QIn Z (b + 2) m) := fun W n f hq Z hZ => by
        subst hZ
        have o0 := own_fresh' HO.out (HFA.out.trans f)
        have o1 := (World.ownsRow.stored o0 (k * 7) (.string n.c.name)).1
        have o2 := (World.ownsRow.stored o1 (k * 7 + 1) (.string n.c.image)).1
        have o3 := (World.ownsRow.stored o2 (k * 7 + 2) (.slice n.ca n.c.cmd.length n.cc)).1
        have o4 := (World.ownsRow.stored o3 (k * 7 + 3) (.slice n.pa n.c.ports.length n.pc)).1
        have o5 := (World.ownsRow.stored o4 (k * 7 + 4) (.int .i64 n.c.cpu)).1
        have o6 := (World.ownsRow.stored o5 (k * 7 + 5) (.int .i64 n.c.mem)).1
        have o7 := (World.ownsRow.stored o6 (k * 7 + 6) (.slice n.ea n.c.env.length n.ec)).1
        rw [ccells_set7 _ k n HLEN.out, HSET.out n] at o7
        refine ⟨((((((((HS.out.go (HFA.out.trans f)).off (i := k * 7) hgb _).off (i := k * 7 + 1) hgb _).off (i := k * 7 + 2) hgb _).off (i := k * 7 + 3) hgb _).off (i := k * 7 + 4) hgb _).off (i := k * 7 + 5) hgb _).off (i := k * 7 + 6) hgb _), o7, fun m hm => ?_⟩
        have q0 : QIn W (b + 2) m := by
          rcases List.mem_append.1 hm with h | h
          · exact ((HQ.out m h).fresh HFA.out).fresh f
          · rw [List.mem_singleton.1 h]; exact hq
        exact ((((((q0.stored o0 _ _).stored o1 _ _).stored o2 _ _).stored o3 _ _).stored o4 _ _).stored o5 _ _).stored o6 _ _
      obtain ⟨j0, j1, j2, j3, j4, j5, j6, j7⟩ := HWA.out WW (Fresh.refl _)
      have HWD2 := Lib.hid (HWD.out WW.drew HFA.out.drew)
      have HSZ : Hid (b + 2 ≤ WW.drew.heap.size) := Nat.le_trans HS.out.sz HFA.out.size
      have hz1 : ¬ g = b := by omega
      have hz2 : ¬ b = g := by omega
      have hz3 : ¬ g = wr.heap.size := by have := HZ.out; omega
      have hz4 : ¬ wr.heap.size = g := by have := HZ.out; omega
      generalize wr.heap.size = z at *
      clear c0 c1 c2 c3 c4 c5 c6 q5 HWD
      go_region_held3 (fun w' => (w'.cell? ⟨b, 5, none⟩ = some (.slice (some ⟨g, 0, none⟩) cs.length cap2) ∧ w'.cell? ⟨z, 0, none⟩ = some (.string s0) ∧ w'.cell? ⟨z, 1, none⟩ = some (.string s1) ∧ w'.cell? ⟨z, 2, none⟩ = some (.slice ca z1 cc) ∧ w'.cell? ⟨z, 3, none⟩ = some (.slice pa z2 pc) ∧ w'.cell? ⟨z, 4, none⟩ = some (.int .i64 n4) ∧ w'.cell? ⟨z, 5, none⟩ = some (.int .i64 n5) ∧ w'.cell? ⟨z, 6, none⟩ = some (.slice ea z3 ec))) (go_keep)
        (first | (go_at_call 39; (with_reducible refine HWD2.out.mono ?_); rintro e V1 ⟨n, rfl, hnc2, hq, hf⟩; have HF1 := Lib.hid ((Fresh.refl WW).drew.trans hf); have HQN := Lib.hid (QIn.mono hq HSZ.out); have HNC := Lib.hid hnc2; have HGO2 := Lib.hid (HGO.out V1 n HF1.out HQN.out); obtain ⟨l0, l1, l2, l3, l4, l5, l6, l7⟩ := HWA.out _ HF1.out; obtain ⟨⟨x0, x1, x2, x3, x4, x5, x6⟩, y0, y1, y2, y3, y4, y5, y6⟩ := HWC.out _ HF1.out; clear hf hq hnc2; dsimp only [CM.val]))
      have HZ2 := Lib.hid (HGO2.out _ rfl)
      clear HGO2 x0 x1 x2 x3 x4 x5 x6 y0 y1 y2 y3 y4 y5 y6 l0 l1 l2 l3 l4 l5 l6 l7 j0 j1 j2 j3 j4 j5 j6 j7
      generalize ((((((V1.setCell ⟨g, k * 7, none⟩ (.string n.c.name)).setCell ⟨g, k * 7 + 1, none⟩ (.string n.c.image)).setCell ⟨g, k * 7 + 2, none⟩ (.slice n.ca n.c.cmd.length n.cc)).setCell ⟨g, k * 7 + 3, none⟩ (.slice n.pa n.c.ports.length n.pc)).setCell ⟨g, k * 7 + 4, none⟩ (.int .i64 n.c.cpu)).setCell ⟨g, k * 7 + 5, none⟩ (.int .i64 n.c.mem)).setCell ⟨g, k * 7 + 6, none⟩ (.slice n.ea n.c.env.length n.ec) = ZZ at *
      go_wp2
      all_goals try (exfalso; omega)
      go_roundw
      case rel => exact ⟨k + 1, D ++ [n], by simp, by omega, ⟨by rw [List.length_append, HD.out.1]; rfl, by rw [List.map_append, HD.out.2, HTK.out, ← HNC.out]; rfl⟩, HZ2.out.1, HZ2.out.2.1, HZ2.out.2.2⟩
      case measure => simp [intOf]; omega
    · obtain rfl : k = cs.length := by omega
      have HO2 : Hid (wr.ownsRow (b + 2) 53 7 (.slice a2 cs.length cap2) cs.length (ccells D)) := by
        have := HO.out
        rwa [List.drop_length, List.append_nil] at this
      have HD2 : Hid (D.map (·.c) = cs.map (fun m => defC m.c)) := by
        have := HD.out.2
        rwa [List.take_length] at this
      obtain ⟨⟨q0, q1, q2, q3, q4, q5⟩, _⟩ := HS.out.cells
      obtain ⟨⟨z0, z1, z2, z3, z4, z5⟩, fy⟩ := box6p HS.out.at2
      have y0 := fy 0
      have y1 := fy 1
      have y2 := fy 2
      have y3 := fy 3
      have y4 := fy 4
      have y5 := fy 5
      clear fy
      go_wp2
      all_goals try (exfalso; omega)
      have l1 : ∀ i, (⟨b + 1, i, none⟩ : Addr).block < b + 2 := fun i => Nat.lt_succ_self (b + 1)
      refine bodyPost_ret (v := .agg #[.string name, .string ns2, .int .i64 rs, .int .i64 gr2, .bool ho, .slice a2 cs.length cap2]) (by simp [results, Tryd.f12, go_sem, *]) rfl ⟨a2, cap2, D, rfl, HD.out.1, HD2.out, ?_, ?_, ?_⟩
      · refine World.ownsRow.mono (base := b + 2) ?_ (by have := HBW.out; omega)
        exact own_set' (p := ⟨b + 1, 5, none⟩) (own_set' (p := ⟨b + 1, 4, none⟩) (own_set' (p := ⟨b + 1, 3, none⟩) (own_set' (p := ⟨b + 1, 2, none⟩) (own_set' (p := ⟨b + 1, 1, none⟩) (own_set' (p := ⟨b + 1, 0, none⟩) HO2.out (l1 0) _) (l1 1) _) (l1 2) _) (l1 3) _) (l1 4) _) (l1 5) _
      · intro m hm
        refine QIn.mono (B := b + 2) ?_ (by have := HBW.out; omega)
        exact QIn.set (p := ⟨b + 1, 5, none⟩) (QIn.set (p := ⟨b + 1, 4, none⟩) (QIn.set (p := ⟨b + 1, 3, none⟩) (QIn.set (p := ⟨b + 1, 2, none⟩) (QIn.set (p := ⟨b + 1, 1, none⟩) (QIn.set (p := ⟨b + 1, 0, none⟩) (HQ.out m hm) (l1 0) _) (l1 1) _) (l1 2) _) (l1 3) _) (l1 4) _) (l1 5) _
      · repeat (refine Fresh.setCell ?_ (by have := HBW.out; simp; omega) _)
        exact HS.out.fr
end Go.Proofs.YtfhhmajkacjbgaaDoor
namespace Go.Proofs.YtfhhmajkacjbgaaDoor
open Go.ChangeShapes Go.WideShapes Go.ChangeAt Go.RowKit
attribute [local go_sem ↓] Go.wp_at_zero Go.wp_at_succ

set_option maxRecDepth 100000 in
set_option maxHeartbeats 4000000 in
theorem pdef_B (name ns : ByteArray) (rs gr : Int) (ho : Bool) (a : Option Addr) (cap : Nat) (cs : List CM) (w : World) (hr : RowAt w a (ccells cs)) (hin : ∀ m ∈ cs, m.In w) (hlw : ∀ m ∈ cs, m.c.Low) (hl : cs.length ≤ 1048576) (hn1 : name.size ≤ 1048576) (hn2 : ns.size ≤ 1048576) (hns : ¬ ns = ⟨#[]⟩) :
    Calls Tryd.prog 12 #[.agg #[.string name, .string ns, .int .i64 rs, .int .i64 gr, .bool ho, .slice a cs.length cap]] w fun e w' => ∃ (a' : Option Addr) (cap' : Nat) (D : List CM), e = .returned (.agg #[.string name, .string (if ns.size = 0 then nsDef else ns), .int .i64 rs, .int .i64 (if gr = 0 then 30 else gr), .bool ho, .slice a' cs.length cap']) ∧ D.length = cs.length ∧ D.map (·.c) = cs.map (fun m => defC m.c) ∧ w'.ownsRow w.heap.size 53 7 (.slice a' cs.length cap') cs.length (ccells D) ∧ (∀ m ∈ D, QIn w' w.heap.size m) ∧ Fresh w w' := by
  have HROW := Lib.hid hr
  have HINS := Lib.hid hin
  have HLW := Lib.hid hlw
  have HK0 := Lib.hid (fun W => clone_any name W (by omega))
  have HK1 := Lib.hid (fun W => clone_any ns W (by omega))
  have HOE := Lib.hid (fun W => orElse_any gr 30 W)
  have HCC := Lib.hid (fun W (f : Fresh w W) => cloneC_any cs a cap W (HROW.out.move f) hl)
  obtain ⟨ns2, hns2⟩ : ∃ s, s = if ns.size = 0 then nsDef else ns := ⟨_, rfl⟩
  rw [← hns2]
  generalize (if gr = 0 then (30 : Int) else gr) = gr2 at *
  have hN : ns2 = ns := hns2.trans (if_neg (fun e => hns (ByteArray.ext (Array.eq_empty_of_size_eq_zero e))))
  have e0 := tl_some hns
  clear hns2 hns
  clear hr hin hlw hn1 hn2 HROW
  have hst := PDS.start (w := w) (s0 := name) (s1 := ns) (n2 := rs) (n3 := gr) (b4 := ho) (v5 := .slice a cs.length cap)
  have HST := Lib.hid hst
  clear hst
  go_enter Tryd.func12, Tryd.ntmps12
  go_wp2_with (fail)
  generalize (w.alloc (.cells #[.string name, .string ns, .int .i64 rs, .int .i64 gr, .bool ho, .slice a cs.length cap] 25)).alloc (.cells #[.string ⟨#[]⟩, .string ⟨#[]⟩, .int .i64 0, .int .i64 0, .bool false, .slice none 0 0] 25) = W0 at *
  obtain ⟨b, hb⟩ : ∃ b, b = w.heap.size := ⟨_, rfl⟩
  have HBW := Lib.hid hb
  rw [← hb] at HST ⊢
  clear hb
  refine (HK0.out W0).mono ?_
  rintro e W1 ⟨rfl, hf⟩
  have HS1 := Lib.hid (HST.out.go hf)
  clear hf HST
  obtain ⟨⟨q0, q1, q2, q3, q4, q5⟩, fz⟩ := HS1.out.cells
  have f0 := fz 0
  clear fz q2 q3 q4 q5
  go_wp2_with (fail)
  have HS2 := Lib.hid (HS1.out.set0 name)
  generalize W1.setCell ⟨b, 0, none⟩ (.string name) = W2 at *
  clear HS1 q0 q1 f0
  refine (HK1.out W2).mono ?_
  rintro e W3 ⟨rfl, hf⟩
  have HS3 := Lib.hid (HS2.out.go hf)
  clear hf HS2
  obtain ⟨⟨q0, q1, q2, q3, q4, q5⟩, fz⟩ := HS3.out.cells
  have f0 := fz 1
  clear fz q0 q2 q4 q5
  go_wp2_with (fail)
  have HS4 : Hid (PDS w (W3.setCell ⟨b, 1, none⟩ (.string ns)) b name ns2 rs gr ho (.slice a cs.length cap)) := by
    rw [hN]
    exact HS3.out.set1 _
  generalize W3.setCell ⟨b, 1, none⟩ (.string ns) = W4 at *
  clear hN e0
  clear HS3 q1 q3 f0
  refine (HOE.out W4).mono ?_
  rintro e W4' ⟨rfl, rfl⟩
  obtain ⟨⟨q0, q1, q2, q3, q4, q5⟩, fz⟩ := HS4.out.cells
  have f0 := fz 3
  clear fz q0 q1 q2 q4
  go_wp2_with (fail)
  have HS5 := Lib.hid (HS4.out.set3 gr2)
  generalize W4.setCell ⟨b, 3, none⟩ (.int .i64 gr2) = W5 at *
  clear HS4 q3 q5 f0
  refine (HCC.out W5 HS5.out.fr).mono ?_
  rintro e W6 ⟨a2, cap2, rfl, hown, hf⟩
  have HS6 := Lib.hid (HS5.out.go hf)
  have HO6 := Lib.hid (World.ownsRow.mono hown HS5.out.sz)
  clear hf HS5 hown
  obtain ⟨⟨q0, q1, q2, q3, q4, q5⟩, fz⟩ := HS6.out.cells
  have f0 := fz 5
  clear fz q0 q1 q2 q3 q4
  go_wp2_with (fail)
  have HS7 := Lib.hid (HS6.out.set5 (.slice a2 cs.length cap2))
  have HO7 := Lib.hid (own_set' (p := ⟨b, 5, none⟩) HO6.out (by show b < b + 2; omega) (.slice a2 cs.length cap2))
  dsimp only at HO7
  generalize W6.setCell ⟨b, 5, none⟩ (.slice a2 cs.length cap2) = W7 at *
  clear HS6 HO6 q5 f0
  go_loopw [28] (fun a28 wr => ∃ (k : Nat) (D : List CM), a28 = .int .i64 (k : Int) ∧ k ≤ cs.length ∧ Hid (D.length = k ∧ D.map (·.c) = (cs.take k).map (fun m => defC m.c)) ∧ Hid (PDS w wr b name ns2 rs gr2 ho (.slice a2 cs.length cap2)) ∧ Hid (wr.ownsRow (b + 2) 53 7 (.slice a2 cs.length cap2) cs.length (ccells (D ++ cs.drop k))) ∧ Hid (∀ m ∈ D, QIn wr (b + 2) m)) (fun a28 _ => cs.length - (intOf a28).toNat)
  case atStart => exact ⟨0, [], rfl, Nat.zero_le _, ⟨rfl, rfl⟩, HS7.out, HO7.out, fun m hm => absurd hm List.not_mem_nil⟩
  case round =>
    obtain ⟨k, D, rfl, hk, HD, HS, HO, HQ⟩ := hrel
    by_cases hlt : k < cs.length
    · obtain ⟨g, rfl, hgb, hnc⟩ := own_form HO.out hlt
      have hsp : D ++ cs.drop k = D ++ cs[k] :: cs.drop (k + 1) := by rw [List.drop_eq_getElem_cons hlt]
      have hcell : ∀ i v, i < 7 → cs[k].cells[i]? = some v → wr.cell? ⟨g, k * 7 + i, none⟩ = some v := fun i v hi hv => by
        rw [World.ownsRow.cellAt HO.out (k * 7 + i) (by omega)]
        have hlen : k < (D ++ cs.drop k).length := by rw [List.length_append, List.length_drop, HD.out.1]; omega
        have h1 := flat_get CM.cells 7 (fun _ => rfl) (D ++ cs.drop k) k hlen i hi
        have h2 : (D ++ cs.drop k)[k] = cs[k] := by
          rw [List.getElem_append_right (by rw [HD.out.1]; exact Nat.le_refl _)]
          simp [HD.out.1]
        rw [h2, hv] at h1
        exact h1
      have c0 := hcell 0 _ (by omega) rfl
      have c1 := hcell 1 _ (by omega) rfl
      have c2 := hcell 2 _ (by omega) rfl
      have c3 := hcell 3 _ (by omega) rfl
      have c4 := hcell 4 _ (by omega) rfl
      have c5 := hcell 5 _ (by omega) rfl
      have c6 := hcell 6 _ (by omega) rfl
      clear hcell
      rw [Nat.add_zero] at c0
      have HWD : Hid (∀ W, Fresh wr W → Calls Tryd.prog 39 #[cs[k].val] W fun e w' => ∃ n : CM, e = .returned n.val ∧ n.c = defC cs[k].c ∧ QIn w' W.heap.size n ∧ Fresh W w') := fun W f =>
        wd_any cs[k] W (((HINS.out _ (List.getElem_mem hlt)).move HS.out.fr).move f) (HLW.out _ (List.getElem_mem hlt))
      have HTK : Hid ((cs.take (k + 1)).map (fun m => defC m.c) = (cs.take k).map (fun m => defC m.c) ++ [defC cs[k].c]) := by
        rw [Hid, List.take_succ_eq_append_getElem hlt, List.map_append]; rfl
      have HSET : Hid (∀ n : CM, ccells ((D ++ cs.drop k).set k n) = ccells ((D ++ [n]) ++ cs.drop (k + 1))) := fun n => by
        rw [hsp, mid_set HD.out.1]
      have HLEN : Hid (k < (D ++ cs.drop k).length) := by rw [Hid, List.length_append, List.length_drop, HD.out.1]; omega
      clear hsp
      generalize cs[k] = m at *
      obtain ⟨⟨s0, s1, lc, lp, n4, n5, le⟩, ca, cc, pa, pc, ea, ec⟩ := m
      dsimp only [CM.val] at *
      generalize lc.length = z1 at *
      generalize lp.length = z2 at *
      generalize le.length = z3 at *
      have q5 := HS.out.cells.1.2.2.2.2.2
      have i1 : (0 : Int) ≤ (k : Int) := by omega
      have i2 : (k : Int) < (cs.length : Int) := by omega
      have HZ : Hid (g < wr.heap.size) := World.block_lt_of_cell? wr _ c0
      have HAT := Lib.hid (at_new wr (.cells #[.string s0, .string s1, .slice ca z1 cc, .slice pa z2 pc, .int .i64 n4, .int .i64 n5, .slice ea z3 ec] 53))
      have HFA := Lib.hid ((Fresh.refl wr).alloc (.cells #[.string s0, .string s1, .slice ca z1 cc, .slice pa z2 pc, .int .i64 n4, .int .i64 n5, .slice ea z3 ec] 53))
      go_wp2_with (fail)
      all_goals try (exfalso; omega)
      generalize hWW : wr.alloc (.cells #[.string s0, .string s1, .slice ca z1 cc, .slice pa z2 pc, .int .i64 n4, .int .i64 n5, .slice ea z3 ec] 53) = WW at *
      clear hWW
      have HWA : Hid (∀ W, Fresh WW W → (W.cell? ⟨b, 5, none⟩ = some (.slice (some ⟨g, 0, none⟩) cs.length cap2) ∧ W.cell? ⟨wr.heap.size, 0, none⟩ = some (.string s0) ∧ W.cell? ⟨wr.heap.size, 1, none⟩ = some (.string s1) ∧ W.cell? ⟨wr.heap.size, 2, none⟩ = some (.slice ca z1 cc) ∧ W.cell? ⟨wr.heap.size, 3, none⟩ = some (.slice pa z2 pc) ∧ W.cell? ⟨wr.heap.size, 4, none⟩ = some (.int .i64 n4) ∧ W.cell? ⟨wr.heap.size, 5, none⟩ = some (.int .i64 n5) ∧ W.cell? ⟨wr.heap.size, 6, none⟩ = some (.slice ea z3 ec))) := fun W f =>
        ⟨(HFA.out.trans f).cell q5, f.cell (cell_of_at HAT.out rfl), f.cell (cell_of_at HAT.out rfl), f.cell (cell_of_at HAT.out rfl), f.cell (cell_of_at HAT.out rfl), f.cell (cell_of_at HAT.out rfl), f.cell (cell_of_at HAT.out rfl), f.cell (cell_of_at HAT.out rfl)⟩
      have HWC : Hid (∀ W, Fresh WW W → ((W.cell? ⟨g, k * 7, none⟩ = some (.string s0) ∧ W.cell? ⟨g, k * 7 + 1, none⟩ = some (.string s1) ∧ W.cell? ⟨g, k * 7 + 2, none⟩ = some (.slice ca z1 cc) ∧ W.cell? ⟨g, k * 7 + 3, none⟩ = some (.slice pa z2 pc) ∧ W.cell? ⟨g, k * 7 + 4, none⟩ = some (.int .i64 n4) ∧ W.cell? ⟨g, k * 7 + 5, none⟩ = some (.int .i64 n5) ∧ W.cell? ⟨g, k * 7 + 6, none⟩ = some (.slice ea z3 ec)) ∧ (W.frozen? ⟨g, k * 7, none⟩ = false ∧ W.frozen? ⟨g, k * 7 + 1, none⟩ = false ∧ W.frozen? ⟨g, k * 7 + 2, none⟩ = false ∧ W.frozen? ⟨g, k * 7 + 3, none⟩ = false ∧ W.frozen? ⟨g, k * 7 + 4, none⟩ = false ∧ W.frozen? ⟨g, k * 7 + 5, none⟩ = false ∧ W.frozen? ⟨g, k * 7 + 6, none⟩ = false))) := fun W f =>
        have x := own_fresh' HO.out (HFA.out.trans f)
        ⟨⟨(HFA.out.trans f).cell c0, (HFA.out.trans f).cell c1, (HFA.out.trans f).cell c2, (HFA.out.trans f).cell c3, (HFA.out.trans f).cell c4, (HFA.out.trans f).cell c5, (HFA.out.trans f).cell c6⟩, World.ownsRow.frozenAt x _, World.ownsRow.frozenAt x _, World.ownsRow.frozenAt x _, World.ownsRow.frozenAt x _, World.ownsRow.frozenAt x _, World.ownsRow.frozenAt x _, World.ownsRow.frozenAt x _⟩
      have HGO : Hid (∀ (W : World) (n : CM), Fresh WW W → QIn W (b + 2) n → ∀ Z, Z = ((((((W.setCell ⟨g, k * 7, none⟩ (.string n.c.name)).setCell ⟨g, k * 7 + 1, none⟩ (.string n.c.image)).setCell ⟨g, k * 7 + 2, none⟩ (.slice n.ca n.c.cmd.length n.cc)).setCell ⟨g, k * 7 + 3, none⟩ (.slice n.pa n.c.ports.length n.pc)).setCell ⟨g, k * 7 + 4, none⟩ (.int .i64 n.c.cpu)).setCell ⟨g, k * 7 + 5, none⟩ (.int .i64 n.c.mem)).setCell ⟨g, k * 7 + 6, none⟩ (.slice n.ea n.c.env.length n.ec) → PDS w Z b name ns2 rs gr2 ho (.slice (some ⟨g, 0, none⟩) cs.length cap2) ∧ Z.ownsRow (b + 2) 53 7 (.slice (some ⟨g, 0, none⟩) cs.length cap2) cs.length (ccells ((D ++ [n]) ++ cs.drop (k + 1))) ∧ ∀ m ∈ D ++ [n], QIn Z (b + 2) m) := fun W n f hq Z hZ => by
        subst hZ
        have o0 := own_fresh' HO.out (HFA.out.trans f)
        have o1 := (World.ownsRow.stored o0 (k * 7) (.string n.c.name)).1
        have o2 := (World.ownsRow.stored o1 (k * 7 + 1) (.string n.c.image)).1
        have o3 := (World.ownsRow.stored o2 (k * 7 + 2) (.slice n.ca n.c.cmd.length n.cc)).1
        have o4 := (World.ownsRow.stored o3 (k * 7 + 3) (.slice n.pa n.c.ports.length n.pc)).1
        have o5 := (World.ownsRow.stored o4 (k * 7 + 4) (.int .i64 n.c.cpu)).1
        have o6 := (World.ownsRow.stored o5 (k * 7 + 5) (.int .i64 n.c.mem)).1
        have o7 := (World.ownsRow.stored o6 (k * 7 + 6) (.slice n.ea n.c.env.length n.ec)).1
        rw [ccells_set7 _ k n HLEN.out, HSET.out n] at o7
        refine ⟨((((((((HS.out.go (HFA.out.trans f)).off (i := k * 7) hgb _).off (i := k * 7 + 1) hgb _).off (i := k * 7 + 2) hgb _).off (i := k * 7 + 3) hgb _).off (i := k * 7 + 4) hgb _).off (i := k * 7 + 5) hgb _).off (i := k * 7 + 6) hgb _), o7, fun m hm => ?_⟩
        have q0 : QIn W (b + 2) m := by
          rcases List.mem_append.1 hm with h | h
          · exact ((HQ.out m h).fresh HFA.out).fresh f
          · rw [List.mem_singleton.1 h]; exact hq
        exact ((((((q0.stored o0 _ _).stored o1 _ _).stored o2 _ _).stored o3 _ _).stored o4 _ _).stored o5 _ _).stored o6 _ _
      obtain ⟨j0, j1, j2, j3, j4, j5, j6, j7⟩ := HWA.out WW (Fresh.refl _)
      have HWD2 := Lib.hid (HWD.out WW.drew HFA.out.drew)
      have HSZ : Hid (b + 2 ≤ WW.drew.heap.size) := Nat.le_trans HS.out.sz HFA.out.size
      have hz1 : ¬ g = b := by omega
      have hz2 : ¬ b = g := by omega
      have hz3 : ¬ g = wr.heap.size := by have := HZ.out; omega
      have hz4 : ¬ wr.heap.size = g := by have := HZ.out; omega
      generalize wr.heap.size = z at *
      clear c0 c1 c2 c3 c4 c5 c6 q5 HWD
      go_region_held3 (fun w' => (w'.cell? ⟨b, 5, none⟩ = some (.slice (some ⟨g, 0, none⟩) cs.length cap2) ∧ w'.cell? ⟨z, 0, none⟩ = some (.string s0) ∧ w'.cell? ⟨z, 1, none⟩ = some (.string s1) ∧ w'.cell? ⟨z, 2, none⟩ = some (.slice ca z1 cc) ∧ w'.cell? ⟨z, 3, none⟩ = some (.slice pa z2 pc) ∧ w'.cell? ⟨z, 4, none⟩ = some (.int .i64 n4) ∧ w'.cell? ⟨z, 5, none⟩ = some (.int .i64 n5) ∧ w'.cell? ⟨z, 6, none⟩ = some (.slice ea z3 ec))) (go_keep)
        (first | (go_at_call 39; (with_reducible refine HWD2.out.mono ?_); rintro e V1 ⟨n, rfl, hnc2, hq, hf⟩; have HF1 := Lib.hid ((Fresh.refl WW).drew.trans hf); have HQN := Lib.hid (QIn.mono hq HSZ.out); have HNC := Lib.hid hnc2; have HGO2 := Lib.hid (HGO.out V1 n HF1.out HQN.out); obtain ⟨l0, l1, l2, l3, l4, l5, l6, l7⟩ := HWA.out _ HF1.out; obtain ⟨⟨x0, x1, x2, x3, x4, x5, x6⟩, y0, y1, y2, y3, y4, y5, y6⟩ := HWC.out _ HF1.out; clear hf hq hnc2; dsimp only [CM.val]))
      have HZ2 := Lib.hid (HGO2.out _ rfl)
      clear HGO2 x0 x1 x2 x3 x4 x5 x6 y0 y1 y2 y3 y4 y5 y6 l0 l1 l2 l3 l4 l5 l6 l7 j0 j1 j2 j3 j4 j5 j6 j7
      generalize ((((((V1.setCell ⟨g, k * 7, none⟩ (.string n.c.name)).setCell ⟨g, k * 7 + 1, none⟩ (.string n.c.image)).setCell ⟨g, k * 7 + 2, none⟩ (.slice n.ca n.c.cmd.length n.cc)).setCell ⟨g, k * 7 + 3, none⟩ (.slice n.pa n.c.ports.length n.pc)).setCell ⟨g, k * 7 + 4, none⟩ (.int .i64 n.c.cpu)).setCell ⟨g, k * 7 + 5, none⟩ (.int .i64 n.c.mem)).setCell ⟨g, k * 7 + 6, none⟩ (.slice n.ea n.c.env.length n.ec) = ZZ at *
      go_wp2
      all_goals try (exfalso; omega)
      go_roundw
      case rel => exact ⟨k + 1, D ++ [n], by simp, by omega, ⟨by rw [List.length_append, HD.out.1]; rfl, by rw [List.map_append, HD.out.2, HTK.out, ← HNC.out]; rfl⟩, HZ2.out.1, HZ2.out.2.1, HZ2.out.2.2⟩
      case measure => simp [intOf]; omega
    · obtain rfl : k = cs.length := by omega
      have HO2 : Hid (wr.ownsRow (b + 2) 53 7 (.slice a2 cs.length cap2) cs.length (ccells D)) := by
        have := HO.out
        rwa [List.drop_length, List.append_nil] at this
      have HD2 : Hid (D.map (·.c) = cs.map (fun m => defC m.c)) := by
        have := HD.out.2
        rwa [List.take_length] at this
      obtain ⟨⟨q0, q1, q2, q3, q4, q5⟩, _⟩ := HS.out.cells
      obtain ⟨⟨z0, z1, z2, z3, z4, z5⟩, fy⟩ := box6p HS.out.at2
      have y0 := fy 0
      have y1 := fy 1
      have y2 := fy 2
      have y3 := fy 3
      have y4 := fy 4
      have y5 := fy 5
      clear fy
      go_wp2
      all_goals try (exfalso; omega)
      have l1 : ∀ i, (⟨b + 1, i, none⟩ : Addr).block < b + 2 := fun i => Nat.lt_succ_self (b + 1)
      refine bodyPost_ret (v := .agg #[.string name, .string ns2, .int .i64 rs, .int .i64 gr2, .bool ho, .slice a2 cs.length cap2]) (by simp [results, Tryd.f12, go_sem, *]) rfl ⟨a2, cap2, D, rfl, HD.out.1, HD2.out, ?_, ?_, ?_⟩
      · refine World.ownsRow.mono (base := b + 2) ?_ (by have := HBW.out; omega)
        exact own_set' (p := ⟨b + 1, 5, none⟩) (own_set' (p := ⟨b + 1, 4, none⟩) (own_set' (p := ⟨b + 1, 3, none⟩) (own_set' (p := ⟨b + 1, 2, none⟩) (own_set' (p := ⟨b + 1, 1, none⟩) (own_set' (p := ⟨b + 1, 0, none⟩) HO2.out (l1 0) _) (l1 1) _) (l1 2) _) (l1 3) _) (l1 4) _) (l1 5) _
      · intro m hm
        refine QIn.mono (B := b + 2) ?_ (by have := HBW.out; omega)
        exact QIn.set (p := ⟨b + 1, 5, none⟩) (QIn.set (p := ⟨b + 1, 4, none⟩) (QIn.set (p := ⟨b + 1, 3, none⟩) (QIn.set (p := ⟨b + 1, 2, none⟩) (QIn.set (p := ⟨b + 1, 1, none⟩) (QIn.set (p := ⟨b + 1, 0, none⟩) (HQ.out m hm) (l1 0) _) (l1 1) _) (l1 2) _) (l1 3) _) (l1 4) _) (l1 5) _
      · repeat (refine Fresh.setCell ?_ (by have := HBW.out; simp; omega) _)
        exact HS.out.fr
end Go.Proofs.YtfhhmajkacjbgaaDoor
namespace Go.Proofs.YtfhhmajkacjbgaaDoor
theorem default_any (p : PM) (w : World) (h : p.At w) (hl : p.Low) : Calls Tryd.prog 12 #[p.val] w fun e w' => ∃ q : PM, e = .returned q.val ∧ q.pd = defP p.pd ∧ QAt w' w.heap.size q ∧ Fresh w w' := by
  obtain ⟨name, ns, rs, gr, ho, a, cap, cs⟩ := p
  have fin : ∀ (e : Ending) (w' : World), (∃ (a' : Option Addr) (cap' : Nat) (D : List CM), e = .returned (.agg #[.string name, .string (if ns.size = 0 then nsDef else ns), .int .i64 rs, .int .i64 (if gr = 0 then 30 else gr), .bool ho, .slice a' cs.length cap']) ∧ D.length = cs.length ∧ D.map (·.c) = cs.map (fun m => defC m.c) ∧ w'.ownsRow w.heap.size 53 7 (.slice a' cs.length cap') cs.length (ccells D) ∧ (∀ m ∈ D, QIn w' w.heap.size m) ∧ Fresh w w') →
      ∃ q : PM, e = .returned q.val ∧ q.pd = defP (PM.mk name ns rs gr ho a cap cs).pd ∧ QAt w' w.heap.size q ∧ Fresh w w' := by
    rintro e w' ⟨a', cap', D, rfl, h1, h2, h3, h4, h5⟩
    refine ⟨⟨name, if ns.size = 0 then nsDef else ns, rs, if gr = 0 then 30 else gr, ho, a', cap', D⟩, ?_, ?_, ⟨?_, h4⟩, h5⟩
    · show _ = Ending.returned (.agg #[_, _, _, _, _, .slice a' D.length cap'])
      rw [h1]
    · unfold PM.pd defP
      simp only [List.map_map]
      rw [h2]; rfl
    · show w'.ownsRow _ _ _ (.slice a' D.length cap') D.length (ccells D)
      rw [h1]; exact h3
  by_cases hns : ns = ⟨#[]⟩
  · exact (pdef_A name ns rs gr ho a cap cs w h.row h.ins hl.cs hl.len hl.name hl.ns hns).mono fin
  · exact (pdef_B name ns rs gr ho a cap cs w h.row h.ins hl.cs hl.len hl.name hl.ns hns).mono fin
end Go.Proofs.YtfhhmajkacjbgaaDoor
namespace Go.Proofs
open Go.Shelf
def Tryd.laysIndex_ren : Go.Shelf.Ren := ⟨fun | 137 => 86 | 217 => 93 | 266 => 101 | n => n, fun | 9 => 9 | 5 => 5 | 3 => 3 | n => n, fun | n => n⟩
theorem Tryd.laysIndex : Go.Proofs.Lays.n137 Tryd.prog Tryd.laysIndex_ren := {
  mixed := by kernel_rfl
  f137 := Tryd.func86.trans (congrArg some (by kernel_rfl))
  f217 := Tryd.func93.trans (congrArg some (by kernel_rfl))
  f266 := Tryd.func101.trans (congrArg some (by kernel_rfl))
  t3 := Tryd.underlying3
  a3 := Tryd.isAgg3
  z3 := Tryd.sizeOf3
  v3 := Tryd.zeroValue3
  t5 := Tryd.underlying5
  a5 := Tryd.isAgg5
  z5 := Tryd.sizeOf5
  v5 := Tryd.zeroValue5
  t9 := Tryd.underlying9
  a9 := Tryd.isAgg9
  z9 := Tryd.sizeOf9
  v9 := Tryd.zeroValue9 }
def Tryd.laysDecode_ren : Go.Shelf.Ren := ⟨fun | 197 => 84 | 260 => 91 | n => n, fun | 9 => 9 | 21 => 21 | 3 => 3 | 4 => 4 | 5 => 5 | 105 => 112 | 119 => 123 | 0 => 0 | 46 => 115 | 139 => 126 | 138 => 125 | n => n, fun | 3 => 2 | 4 => 3 | n => n⟩
theorem Tryd.laysDecode : Go.Proofs.Lays.n197 Tryd.prog Tryd.laysDecode_ren := {
  mixed := by kernel_rfl
  f197 := Tryd.func84.trans (congrArg some (by kernel_rfl))
  f260 := Tryd.func91.trans (congrArg some (by kernel_rfl))
  t0 := Tryd.underlying0
  a0 := Tryd.isAgg0
  z0 := Tryd.sizeOf0
  v0 := Tryd.zeroValue0
  t3 := Tryd.underlying3
  a3 := Tryd.isAgg3
  z3 := Tryd.sizeOf3
  v3 := Tryd.zeroValue3
  t4 := Tryd.underlying4
  a4 := Tryd.isAgg4
  z4 := Tryd.sizeOf4
  v4 := Tryd.zeroValue4
  t5 := Tryd.underlying5
  a5 := Tryd.isAgg5
  z5 := Tryd.sizeOf5
  v5 := Tryd.zeroValue5
  t9 := Tryd.underlying9
  a9 := Tryd.isAgg9
  z9 := Tryd.sizeOf9
  v9 := Tryd.zeroValue9
  t21 := Tryd.underlying21
  a21 := Tryd.isAgg21
  z21 := Tryd.sizeOf21
  v21 := Tryd.zeroValue21
  t46 := Tryd.underlying115
  a46 := Tryd.isAgg115
  z46 := Tryd.sizeOf115
  v46 := Tryd.zeroValue115
  t105 := Tryd.underlying112
  a105 := Tryd.isAgg112
  z105 := Tryd.sizeOf112
  v105 := Tryd.zeroValue112
  t119 := Tryd.underlying123
  a119 := Tryd.isAgg123
  z119 := Tryd.sizeOf123
  t138 := Tryd.underlying125
  a138 := Tryd.isAgg125
  z138 := Tryd.sizeOf125
  v138 := Tryd.zeroValue125
  t139 := Tryd.underlying126
  a139 := Tryd.isAgg126
  z139 := Tryd.sizeOf126
  v139 := Tryd.zeroValue126
  g3 := by kernel_rfl
  g4 := by kernel_rfl }
def Tryd.laysValid_ren : Go.Shelf.Ren := ⟨fun | 196 => 92 | 259 => 100 | n => n, fun | 9 => 9 | 4 => 4 | 3 => 3 | 5 => 5 | 12 => 12 | 119 => 123 | 0 => 0 | 46 => 115 | 139 => 126 | 138 => 125 | 53 => 132 | n => n, fun | 3 => 2 | 4 => 3 | n => n⟩
theorem Tryd.laysValid : Go.Proofs.Lays.n196 Tryd.prog Tryd.laysValid_ren := {
  mixed := by kernel_rfl
  f196 := Tryd.func92.trans (congrArg some (by kernel_rfl))
  f259 := Tryd.func100.trans (congrArg some (by kernel_rfl))
  t0 := Tryd.underlying0
  a0 := Tryd.isAgg0
  z0 := Tryd.sizeOf0
  v0 := Tryd.zeroValue0
  t3 := Tryd.underlying3
  a3 := Tryd.isAgg3
  z3 := Tryd.sizeOf3
  v3 := Tryd.zeroValue3
  t4 := Tryd.underlying4
  a4 := Tryd.isAgg4
  z4 := Tryd.sizeOf4
  v4 := Tryd.zeroValue4
  t5 := Tryd.underlying5
  a5 := Tryd.isAgg5
  z5 := Tryd.sizeOf5
  v5 := Tryd.zeroValue5
  t9 := Tryd.underlying9
  a9 := Tryd.isAgg9
  z9 := Tryd.sizeOf9
  v9 := Tryd.zeroValue9
  t12 := Tryd.underlying12
  a12 := Tryd.isAgg12
  z12 := Tryd.sizeOf12
  v12 := Tryd.zeroValue12
  t46 := Tryd.underlying115
  a46 := Tryd.isAgg115
  z46 := Tryd.sizeOf115
  v46 := Tryd.zeroValue115
  t53 := Tryd.underlying132
  a53 := Tryd.isAgg132
  z53 := Tryd.sizeOf132
  v53 := Tryd.zeroValue132
  t119 := Tryd.underlying123
  a119 := Tryd.isAgg123
  z119 := Tryd.sizeOf123
  t138 := Tryd.underlying125
  a138 := Tryd.isAgg125
  z138 := Tryd.sizeOf125
  v138 := Tryd.zeroValue125
  t139 := Tryd.underlying126
  a139 := Tryd.isAgg126
  z139 := Tryd.sizeOf126
  v139 := Tryd.zeroValue126
  g3 := by kernel_rfl
  g4 := by kernel_rfl }
def Tryd.laysRune_ren : Go.Shelf.Ren := ⟨fun | 242 => 99 | 278 => 107 | n => n, fun | 37 => 101 | 21 => 21 | 51 => 131 | 4 => 4 | 5 => 5 | 46 => 115 | n => n, fun | n => n⟩
theorem Tryd.laysRune : Go.Proofs.Lays.n242 Tryd.prog Tryd.laysRune_ren := {
  mixed := by kernel_rfl
  f242 := Tryd.func99.trans (congrArg some (by kernel_rfl))
  f278 := Tryd.func107.trans (congrArg some (by kernel_rfl))
  t4 := Tryd.underlying4
  a4 := Tryd.isAgg4
  z4 := Tryd.sizeOf4
  v4 := Tryd.zeroValue4
  t5 := Tryd.underlying5
  a5 := Tryd.isAgg5
  z5 := Tryd.sizeOf5
  v5 := Tryd.zeroValue5
  t21 := Tryd.underlying21
  a21 := Tryd.isAgg21
  z21 := Tryd.sizeOf21
  v21 := Tryd.zeroValue21
  t37 := Tryd.underlying101
  a37 := Tryd.isAgg101
  z37 := Tryd.sizeOf101
  v37 := Tryd.zeroValue101
  t46 := Tryd.underlying115
  a46 := Tryd.isAgg115
  z46 := Tryd.sizeOf115
  v46 := Tryd.zeroValue115
  t51 := Tryd.underlying131
  a51 := Tryd.isAgg131
  z51 := Tryd.sizeOf131
  v51 := Tryd.zeroValue131 }
def Tryd.laysSub_ren : Go.Shelf.Ren := ⟨fun | 219 => 94 | 217 => 93 | 225 => 102 | 224 => 103 | 267 => 104 | 266 => 101 | 314 => 108 | n => n, fun | 9 => 9 | 3 => 3 | 4 => 4 | 5 => 5 | 46 => 115 | 146 => 133 | 51 => 131 | n => n, fun | 1 => 4 | n => n⟩
theorem Tryd.laysSub : Go.Proofs.Lays.n219 Tryd.prog Tryd.laysSub_ren := {
  mixed := by kernel_rfl
  f217 := Tryd.func93.trans (congrArg some (by kernel_rfl))
  f219 := Tryd.func94.trans (congrArg some (by kernel_rfl))
  f224 := Tryd.func103.trans (congrArg some (by kernel_rfl))
  f225 := Tryd.func102.trans (congrArg some (by kernel_rfl))
  f266 := Tryd.func101.trans (congrArg some (by kernel_rfl))
  f267 := Tryd.func104.trans (congrArg some (by kernel_rfl))
  f314 := Tryd.func108.trans (congrArg some (by kernel_rfl))
  t3 := Tryd.underlying3
  a3 := Tryd.isAgg3
  z3 := Tryd.sizeOf3
  v3 := Tryd.zeroValue3
  t4 := Tryd.underlying4
  a4 := Tryd.isAgg4
  z4 := Tryd.sizeOf4
  v4 := Tryd.zeroValue4
  t5 := Tryd.underlying5
  a5 := Tryd.isAgg5
  z5 := Tryd.sizeOf5
  v5 := Tryd.zeroValue5
  t9 := Tryd.underlying9
  a9 := Tryd.isAgg9
  z9 := Tryd.sizeOf9
  v9 := Tryd.zeroValue9
  t46 := Tryd.underlying115
  a46 := Tryd.isAgg115
  z46 := Tryd.sizeOf115
  v46 := Tryd.zeroValue115
  t51 := Tryd.underlying131
  a51 := Tryd.isAgg131
  z51 := Tryd.sizeOf131
  v51 := Tryd.zeroValue131
  t146 := Tryd.underlying133
  a146 := Tryd.isAgg133
  z146 := Tryd.sizeOf133
  v146 := Tryd.zeroValue133
  g1 := by kernel_rfl }
end Go.Proofs
