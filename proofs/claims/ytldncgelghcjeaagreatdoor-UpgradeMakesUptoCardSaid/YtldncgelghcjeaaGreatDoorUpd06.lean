/-
  The bytes of a pod of version 2, by package cktwo.
  What is wrong with a container, by package cktwo.
  What is wrong with a state of version 2, by package cktwo.
  What package cktwo's Encode returns.
  What the laws of version 2 use: awake.
-/
import Derived.Test.YtldncgelghcjeaaGreatDoorUpd05
import Derived.Test.YtldncgelghcjeaaGreatDoorCat05
import Derived.Test.YtldncgelghcjeaaGreatDoorCat22
import Derived.Test.YtldncgelghcjeaaGreatDoorCat21
import Derived.Deep.RegionHeld3
import Derived.Test.YtldncgelghcjeaaGreatDoorCat23
set_option linter.unusedSimpArgs false
set_option linter.unusedVariables false
namespace Go.Proofs.YtldncgelghcjeaaGreatDoor.K
open Go.ChangeShapes Go.WideShapes Go.ChangeAt Go.RowKit
set_option maxRecDepth 100000

theorem text2_any (s : ByteArray) (w : World) (h : s.size ≤ 4096) : Calls Tryz.prog 165 #[.string s] w fun e w' => e = .returned (.string (tx (txtL s))) ∧ Fresh w w' := by
  have HT := Lib.hid (fun W => text_ok s W h)
  rw [txt_tx] at HT
  go_enter Tryz.func165, Tryz.ntmps165
  go_wp2_with (fail)
  refine (HT.out _).mono ?_
  rintro e w' ⟨rfl, hg⟩
  go_wp2
  go_ret
  exact ⟨rfl, hg⟩
theorem pod2_parts (p : P2) : tx (((txtL p.file ++ txtL p.name ++ txtL p.ns) ++ (be 1 p.r.toNat ++ be 2 p.g.toNat) ++ be 1 p.cs.length) ++ p.cs.flatMap cL) = tx (pod2L p) := by
  rw [pod2L]; simp only [List.append_assoc]
set_option maxHeartbeats 8000000 in
theorem podB2_any (m : M2) (w : World) (hin : m.In w) (hp : m.p.Fit 255) (hl : m.p.cs.length ≤ 16) : Calls Tryz.prog 142 #[m.val] w fun e w' => e = .returned (.string (tx (pod2L m.p))) ∧ Fresh w w' := by
  have HPP := Lib.hid (pod2_parts m.p)
  obtain ⟨⟨file, name, ns, r, g, cs⟩, a, c⟩ := m
  have HFC : Hid (∀ x ∈ cs, x.name.size ≤ 255 ∧ x.image.size ≤ 255) := hp.cs
  have H1 := Lib.hid (fun W => text2_any file W (Nat.le_trans hp.file (by decide)))
  have H2 := Lib.hid (fun W => text2_any name W (Nat.le_trans hp.name (by decide)))
  have H3 := Lib.hid (fun W => text2_any ns W (Nat.le_trans hp.ns (by decide)))
  have hr0 : 0 ≤ r := hp.r0
  have hr1 : r ≤ 255 := hp.r1
  have hg0 : 0 ≤ g := hp.g0
  have hg1 : g ≤ 65535 := hp.g1
  have H4 := Lib.hid (fun W => put_yes 1 r W (by decide) hr0 (by omega))
  have H5 := Lib.hid (fun W => put_yes 2 g W (by decide) hg0 (by omega))
  have H6 := Lib.hid (fun W => put_yes 1 (cs.length : Int) W (by decide) (by omega) (by have : cs.length ≤ 16 := hl; omega))
  have z1 : (tx (txtL file)).size ≤ 300 := by rw [tx_size, txtL_len]; have := hp.file; dsimp only at this; omega
  have z2 : (tx (txtL name)).size ≤ 300 := by rw [tx_size, txtL_len]; have := hp.name; dsimp only at this; omega
  have z3 : (tx (txtL ns)).size ≤ 300 := by rw [tx_size, txtL_len]; have := hp.ns; dsimp only at this; omega
  have z4 : (beS 1 r.toNat).size = 1 := beS_size _ _
  have z5 : (beS 2 g.toNat).size = 2 := beS_size _ _
  have z6 : (beS 1 cs.length).size = 1 := beS_size _ _
  have hw1 := wrap_byte hr0 hr1
  have hw2 := wrap_u64' hg0 (by omega)
  have hw3 : IntKind.u64.wrap (cs.length : Int) = (cs.length : Int) := wrap_u64' (by omega) (by have : cs.length ≤ 16 := hl; omega)
  have HROW : Hid (RowAt w a (c2s cs)) := hin.1
  have hl16 : cs.length ≤ 16 := hl
  dsimp only [M2.val] at *
  rw [show (1 : Int).toNat = 1 from rfl] at H4
  rw [show (2 : Int).toNat = 2 from rfl] at H5
  rw [show (1 : Int).toNat = 1 from rfl, Int.toNat_natCast] at H6
  clear hp hin hl
  have HL1 : Hid ((tx (txtL file) ++ tx (txtL name) ++ tx (txtL ns)).data.toList = txtL file ++ txtL name ++ txtL ns) := by
    rw [Hid, tx_app, tx_app, tx_toList]
  have HL2 : Hid ((beS 1 r.toNat ++ beS 2 g.toNat).data.toList = be 1 r.toNat ++ be 2 g.toNat) := by
    rw [Hid, beS_tx, beS_tx, tx_app, tx_toList]
  have HL3 : Hid ((beS 1 cs.length).data.toList = be 1 cs.length) := by rw [Hid, beS_tx, tx_toList]
  rw [← HL1.out, ← HL2.out, ← HL3.out] at HPP
  clear HL1 HL2 HL3
  generalize tx (txtL file) = A at *
  generalize tx (txtL name) = B at *
  generalize tx (txtL ns) = C at *
  generalize beS 1 r.toNat = D at *
  generalize beS 2 g.toNat = E at *
  generalize beS 1 cs.length = F at *
  rw [← HPP.out]
  have s1 : (A ++ B).size ≤ 600 := by rw [ByteArray.size_append]; omega
  have s2 : (A ++ B ++ C).size ≤ 900 := by rw [ByteArray.size_append]; omega
  have s3 : (D ++ E).size = 3 := by rw [ByteArray.size_append]; omega
  have a1 := add_run A B _ (by omega) rfl
  have a2 := add_run (A ++ B) C _ (by omega) rfl
  have a3 := add_run D E _ (by omega) rfl
  generalize A ++ B ++ C = ABC at *
  generalize A ++ B = AB at *
  generalize D ++ E = DE at *
  clear HPP
  have HA := Lib.hid (at_new w (.cells #[.string file, .string name, .string ns, .int .u8 r, .int .u16 g, .slice a cs.length c] 158))
  have HF0 := Lib.hid ((Fresh.refl w).alloc (.cells #[.string file, .string name, .string ns, .int .u8 r, .int .u16 g, .slice a cs.length c] 158))
  have HROW := Lib.hid (HROW.out.move HF0.out)
  have HBL := Lib.hid (bld_new (w.alloc (.cells #[.string file, .string name, .string ns, .int .u8 r, .int .u16 g, .slice a cs.length c] 158)))
  have hW : Fresh (w.alloc (.cells #[.string file, .string name, .string ns, .int .u8 r, .int .u16 g, .slice a cs.length c] 158)) ((w.alloc (.cells #[.string file, .string name, .string ns, .int .u8 r, .int .u16 g, .slice a cs.length c] 158)).alloc (.cells #[.pointer none, .slice none 0 0] 100)) := (Fresh.refl _).alloc _
  have HW0 := Lib.hid hW
  clear hW
  go_enter Tryz.func142, Tryz.ntmps142
  go_wp2_with (fail)
  obtain ⟨z, hz⟩ : ∃ z, z = w.heap.size := ⟨_, rfl⟩
  obtain ⟨b, hb⟩ : ∃ b, b = (w.alloc (.cells #[.string file, .string name, .string ns, .int .u8 r, .int .u16 g, .slice a cs.length c] 158)).heap.size := ⟨_, rfl⟩
  have hbz : b = z + 1 := by rw [hb, World.size_alloc, hz]
  have hb2 : w.heap.size + 1 = b := by omega
  rw [← hb] at HBL
  rw [← hz] at HA hb2
  rw [← hz]
  have HBB := Lib.hid hb
  rw [hb2]
  clear hz hb hb2 hbz
  generalize w.alloc (.cells #[.string file, .string name, .string ns, .int .u8 r, .int .u16 g, .slice a cs.length c] 158) = V0 at *
  generalize V0.alloc (.cells #[.pointer none, .slice none 0 0] 100) = W1 at *
  have HKP : Hid (∀ W, Fresh V0 W → W.cell? ⟨z, 0, none⟩ = some (.string file) ∧ W.cell? ⟨z, 1, none⟩ = some (.string name) ∧ W.cell? ⟨z, 2, none⟩ = some (.string ns) ∧ W.cell? ⟨z, 3, none⟩ = some (.int .u8 r) ∧ W.cell? ⟨z, 4, none⟩ = some (.int .u16 g) ∧ W.cell? ⟨z, 5, none⟩ = some (.slice a cs.length c)) := fun W f =>
    (m2_box (m := ⟨⟨file, name, ns, r, g, cs⟩, a, c⟩) (f.at HA.out)).1
  obtain ⟨k0, k1, k2, k3, k4, k5⟩ := HKP.out W1 HW0.out
  have HW : Hid (Fresh V0 W1.drew) := HW0.out.drew
  have HB : Hid (Bld b b [] W1.drew) := HBL.out
  have HBW : Hid (∀ W, Fresh V0 W → b ≤ W.heap.size) := fun W f => by rw [HBB.out]; exact f.size
  have HBV : Hid (V0.heap.size ≤ b) := by rw [Hid, HBB.out]; exact Nat.le_refl _
  have HLN : Hid (([] : List UInt8).length + ABC.size ≤ 140737488355328) := by rw [Hid, List.length_nil]; omega
  clear HBL HA
  go_region_held3 (fun w' => (w'.cell? ⟨z, 0, none⟩ = some (.string file) ∧ w'.cell? ⟨z, 1, none⟩ = some (.string name) ∧ w'.cell? ⟨z, 2, none⟩ = some (.string ns))) (go_keep)
    (first
      | (go_at_call 165; (with_reducible refine (H1.out _).mono ?_); rintro e W2 ⟨rfl, hf⟩; have HB := Lib.hid (HB.out.fresh hf); have HW := Lib.hid (HW.out.trans hf); obtain ⟨k0, k1, k2, k3, k4, k5⟩ := HKP.out _ HW.out; clear hf)
      | (go_at_call 165; (with_reducible refine (H2.out _).mono ?_); rintro e W2 ⟨rfl, hf⟩; have HB := Lib.hid (HB.out.fresh hf); have HW := Lib.hid (HW.out.trans hf); obtain ⟨k0, k1, k2, k3, k4, k5⟩ := HKP.out _ HW.out; clear hf)
      | (go_at_call 165; (with_reducible refine (H3.out _).mono ?_); rintro e W2 ⟨rfl, hf⟩; have HB := Lib.hid (HB.out.fresh hf); have HW := Lib.hid (HW.out.trans hf); obtain ⟨k0, k1, k2, k3, k4, k5⟩ := HKP.out _ HW.out; clear hf)
      | (go_at_call 89; (with_reducible refine (write_any b b [] ABC _ HB.out HLN.out (HBW.out _ HW.out)).mono ?_); rintro e W2 ⟨rfl, hb3, hf⟩; have HB := Lib.hid hb3; have HW := Lib.hid (HW.out.below hf HBV.out); obtain ⟨k0, k1, k2, k3, k4, k5⟩ := HKP.out _ HW.out; clear hf hb3))
  have HB : Hid (Bld b b ABC.data.toList W2.drew) := HB.out
  have HW : Hid (Fresh V0 W2.drew) := HW.out.drew
  have HLN3 : Hid (ABC.data.toList.length + DE.size ≤ 140737488355328) := by rw [Hid, ← Lib.size_eq]; omega
  go_wp2_with (fail)
  go_region_held3 (fun w' => (w'.cell? ⟨z, 3, none⟩ = some (.int .u8 r) ∧ w'.cell? ⟨z, 4, none⟩ = some (.int .u16 g))) (go_keep)
    (first
      | (go_at_call 90; (with_reducible refine (H4.out _).mono ?_); rintro e W3 ⟨rfl, hf⟩; have HB := Lib.hid (HB.out.fresh hf); have HW := Lib.hid (HW.out.trans hf); obtain ⟨k0, k1, k2, k3, k4, k5⟩ := HKP.out _ HW.out; clear hf)
      | (go_at_call 90; (with_reducible refine (H5.out _).mono ?_); rintro e W3 ⟨rfl, hf⟩; have HB := Lib.hid (HB.out.fresh hf); have HW := Lib.hid (HW.out.trans hf); obtain ⟨k0, k1, k2, k3, k4, k5⟩ := HKP.out _ HW.out; clear hf)
      | (go_at_call 89; (with_reducible refine (write_any b b ABC.data.toList DE _ HB.out HLN3.out (HBW.out _ HW.out)).mono ?_); rintro e W3 ⟨rfl, hb3, hf⟩; have HB := Lib.hid hb3; have HW := Lib.hid (HW.out.below hf HBV.out); obtain ⟨k0, k1, k2, k3, k4, k5⟩ := HKP.out _ HW.out; clear hf hb3))
  have HLN4 : Hid ((ABC.data.toList ++ DE.data.toList).length + F.size ≤ 140737488355328) := by rw [Hid, List.length_append, ← Lib.size_eq, ← Lib.size_eq]; omega
  go_wp2_with (fail)
  refine (H6.out _).mono ?_
  rintro e W4 ⟨rfl, hf⟩
  have HB := Lib.hid (HB.out.fresh hf)
  have HW := Lib.hid (HW.out.trans hf)
  clear hf
  go_wp2_with (fail)
  refine (write_any b b _ F _ HB.out HLN4.out (HBW.out _ HW.out)).mono ?_
  rintro e W5 ⟨rfl, hb5, hf⟩
  have HB := Lib.hid hb5
  have HW := Lib.hid (HW.out.below hf HBV.out)
  obtain ⟨q0, q1, q2, q3, q4, q5⟩ := HKP.out _ HW.out
  have HP0 : Hid ((ABC.data.toList ++ DE.data.toList ++ F.data.toList).length ≤ 1000) := by rw [Hid, List.length_append, List.length_append, ← Lib.size_eq, ← Lib.size_eq, ← Lib.size_eq]; omega
  clear hf hb5 H1 H2 H3 H4 H5 H6 a1 a2 a3 HLN HLN3 HLN4
  obtain ⟨P0, hPE⟩ : ∃ P0, P0 = ABC.data.toList ++ DE.data.toList ++ F.data.toList := ⟨_, rfl⟩
  have HPE := Lib.hid hPE
  rw [← hPE] at HB HP0
  clear hPE
  have HB0 : Hid (Bld b b (P0 ++ (cs.take 0).flatMap cL) W5) := by rw [Hid, List.take_zero, List.flatMap_nil, List.append_nil]; exact HB.out
  go_wp2
  go_loopw [37] (fun a37 wr => ∃ (k : Nat), a37 = .int .i64 (k : Int) ∧ k ≤ cs.length ∧ Hid (Bld b b (P0 ++ (cs.take k).flatMap cL) wr) ∧ Hid (Fresh V0 wr)) (fun a37 _ => cs.length - (intOf a37).toNat)
  case atStart => exact ⟨0, rfl, Nat.zero_le _, HB0.out, HW.out⟩
  case round =>
  clear HB0 HB HW
  obtain ⟨k, rfl, hk, HBk, HF⟩ := hrel
  by_cases hlt : k < cs.length
  case pos =>
    obtain ⟨gc, oc, rfl, hc⟩ := c2_form (HROW.out.move HF.out) hlt
    obtain ⟨l0, l1⟩ := hc k hlt
    have HTK : Hid ((cs.take (k + 1)).flatMap cL = (cs.take k).flatMap cL ++ cL cs[k]) := by
      rw [Hid, List.take_succ_eq_append_getElem hlt, List.flatMap_append]; simp
    have hx := HFC.out _ (List.getElem_mem hlt)
    have HPL : Hid ((P0 ++ (cs.take k).flatMap cL).length ≤ 20000) := by
      have h1 := flat_le cL 514 (cs.take k) (fun c hc => cL_len (HFC.out c (List.mem_of_mem_take hc)))
      have h3 : (cs.take k).length * 514 ≤ 16 * 514 := Nat.mul_le_mul (by rw [List.length_take]; omega) (Nat.le_refl _)
      have := HP0.out
      rw [Hid, List.length_append]
      omega
    clear hc
    generalize cs[k] = x at *
    obtain ⟨x1, x2⟩ := x
    obtain ⟨hx1, hx2⟩ := hx
    dsimp only at hx1 hx2 l0 l1
    have J1 := Lib.hid (fun W => text2_any x1 W (Nat.le_trans hx1 (by decide)))
    have J2 := Lib.hid (fun W => text2_any x2 W (Nat.le_trans hx2 (by decide)))
    have y1 : (tx (txtL x1)).size ≤ 300 := by rw [tx_size, txtL_len]; omega
    have y2 : (tx (txtL x2)).size ≤ 300 := by rw [tx_size, txtL_len]; omega
    have HCL : Hid ((tx (txtL x1) ++ tx (txtL x2)).data.toList = cL ⟨x1, x2⟩) := by rw [Hid, tx_app, tx_toList]; rfl
    generalize tx (txtL x1) = A1 at *
    generalize tx (txtL x2) = A2 at *
    have y3 : (A1 ++ A2).size ≤ 600 := by rw [ByteArray.size_append]; omega
    have a1 := add_run A1 A2 _ (by omega) rfl
    generalize A1 ++ A2 = A12 at *
    have HLk : Hid ((P0 ++ (cs.take k).flatMap cL).length + A12.size ≤ 140737488355328) := by have := HPL.out; rw [Hid]; omega
    have HCB : Hid ((wr.alloc (.cells #[.string x1, .string x2] 160)).heap[wr.heap.size]? = some (.cells #[.string x1, .string x2] 160)) := at_new wr _
    have HW0 : Hid (Fresh V0 (wr.alloc (.cells #[.string x1, .string x2] 160))) := HF.out.alloc _
    have HB0 : Hid (Bld b b (P0 ++ (cs.take k).flatMap cL) (wr.alloc (.cells #[.string x1, .string x2] 160))) := HBk.out.fresh ((Fresh.refl wr).alloc _)
    go_wp2_with (fail)
    all_goals try (exfalso; omega)
    generalize wr.alloc (.cells #[.string x1, .string x2] 160) = X1 at *
    generalize wr.heap.size = cb at *
    have k0 := cell_of_at HCB.out (i := 0) rfl
    have k1 := cell_of_at HCB.out (i := 1) rfl
    have HW : Hid (Fresh V0 X1.drew) := HW0.out.drew
    have HB : Hid (Bld b b (P0 ++ (cs.take k).flatMap cL) X1.drew) := HB0.out
    have HC : Hid (X1.drew.heap[cb]? = some (.cells #[.string x1, .string x2] 160)) := HCB.out
    clear HB0 HW0 HCB
    go_region_held3 (fun w' => (w'.cell? ⟨cb, 0, none⟩ = some (.string x1) ∧ w'.cell? ⟨cb, 1, none⟩ = some (.string x2))) (go_keep)
      (first
        | (go_at_call 165; (with_reducible refine (J1.out _).mono ?_); rintro e W6 ⟨rfl, hf⟩; have HB := Lib.hid (HB.out.fresh hf); have HW := Lib.hid (HW.out.trans hf); have HC := Lib.hid (hf.at HC.out); have k0 := cell_of_at HC.out (i := 0) rfl; have k1 := cell_of_at HC.out (i := 1) rfl; clear hf)
        | (go_at_call 165; (with_reducible refine (J2.out _).mono ?_); rintro e W6 ⟨rfl, hf⟩; have HB := Lib.hid (HB.out.fresh hf); have HW := Lib.hid (HW.out.trans hf); have HC := Lib.hid (hf.at HC.out); have k0 := cell_of_at HC.out (i := 0) rfl; have k1 := cell_of_at HC.out (i := 1) rfl; clear hf)
        | (go_at_call 89; (with_reducible refine (write_any2 b b _ A12 _ HB.out HLk.out (HBW.out _ HW.out)).mono ?_); rintro e W6 ⟨rfl, hb3, hf, hkt⟩; have HB := Lib.hid hb3; have HW := Lib.hid (HW.out.below hf HBV.out); have HC := Lib.hid (hkt _ _ _ HC.out (by decide) (by decide)); have k0 := cell_of_at HC.out (i := 0) rfl; have k1 := cell_of_at HC.out (i := 1) rfl; clear hf hb3 hkt))
    have HN : Hid (Bld b b (P0 ++ (cs.take (k + 1)).flatMap cL) W6) := by
      rw [Hid, HTK.out, ← HCL.out, ← List.append_assoc]; exact HB.out
    go_wp2
    go_roundw
    case rel => exact ⟨k + 1, by simp, by omega, HN.out, HW.out⟩
    case measure => simp [intOf]; omega
  case neg =>
    obtain rfl : k = cs.length := by omega
    have HB9 : Hid (Bld b b (P0 ++ cs.flatMap cL) wr) := by
      have := HBk.out
      rw [List.take_length] at this; exact this
    have HS := Lib.hid (str_any b b (P0 ++ cs.flatMap cL) wr HB9.out (HBW.out _ HF.out))
    go_wp2_with (fail)
    all_goals try (exfalso; omega)
    refine HS.out.mono ?_
    rintro e W8 ⟨rfl, hf8⟩
    have HF9 := Lib.hid ((HF0.out.trans HF.out).below hf8 (Nat.le_trans HF0.out.size HBV.out))
    clear hf8
    go_wp2
    go_ret
    exact ⟨by rw [← HPE.out]; rfl, HF9.out⟩
end Go.Proofs.YtldncgelghcjeaaGreatDoor.K
namespace Go.Proofs.YtldncgelghcjeaaGreatDoor.K
open Go.ChangeShapes Go.WideShapes Go.ChangeAt Go.RowKit
set_option maxRecDepth 100000

theorem c2_box {w : World} {b t : Nat} {c : C2} (h : w.heap[b]? = some (.cells #[.string c.name, .string c.image] t)) : w.cell? ⟨b, 0, none⟩ = some (.string c.name) ∧ w.cell? ⟨b, 1, none⟩ = some (.string c.image) ∧ ∀ i, w.frozen? ⟨b, i, none⟩ = false :=
  ⟨cell_of_at h rfl, cell_of_at h rfl, frozen_of_at h⟩
theorem isC_any (d : C2) (s : ByteArray) (b : Nat) (w : World) (hb : w.cell? ⟨b, 0, none⟩ = some (.string s)) :
    Calls Tryz.prog 186 #[d.val, .pointer (some ⟨b, 0, none⟩)] w fun e w' => e = .returned (.bool (decide (d.name = s))) ∧ Fresh w w' := by
  obtain ⟨nm, im⟩ := d
  have hbl := World.block_lt_of_cell? w _ hb
  have HF := Lib.hid ((Fresh.refl w).alloc (.cells #[.string nm, .string im] 160))
  dsimp only [C2.val] at *
  by_cases h : nm = s
  · subst h
    have HR : Hid (decide (nm = nm) = true) := by rw [Hid, decide_eq_true rfl]
    go_enter Tryz.func186, Tryz.ntmps186
    go_wp2
    go_ret
    exact ⟨ret_bool HR.out.symm, HF.out⟩
  · have e1 := tl_ne h
    have HR : Hid (decide (nm = s) = false) := by rw [Hid, decide_eq_false h]
    clear h
    go_enter Tryz.func186, Tryz.ntmps186
    go_wp2
    go_ret
    exact ⟨ret_bool HR.out.symm, HF.out⟩
set_option maxHeartbeats 2000000 in
theorem indexC_any (l : List C2) (a : Option Addr) (c : Nat) (s : ByteArray) (b : Nat) (w : World) (hr : RowAt w a (c2s l)) (hb : w.cell? ⟨b, 0, none⟩ = some (.string s)) (hl : l.length ≤ 4000000) :
    Calls Tryz.prog 195 #[.slice a l.length c, .func (.func 186) #[] #[.pointer (some ⟨b, 0, none⟩)]] w fun e w' => ∃ i : Int, e = .returned (.int .i64 i) ∧ decide (0 ≤ i) = memN s l ∧ Fresh w w' := by
  have HROW := Lib.hid hr
  have HB := Lib.hid hb
  clear hr hb
  go_enter Tryz.func195, Tryz.ntmps195
  go_wp2
  go_loopw [8] (fun a8 wr => ∃ (k : Nat), a8 = .int .i64 (k : Int) ∧ k ≤ l.length ∧ Hid (memN s (l.take k) = false) ∧ Hid (Fresh w wr)) (fun a8 _ => l.length - (intOf a8).toNat)
  case atStart => exact ⟨0, rfl, Nat.zero_le _, rfl, Fresh.refl _⟩
  case round =>
    obtain ⟨k, rfl, hk, HM, HF⟩ := hrel
    by_cases hlt : k < l.length
    · obtain ⟨g, o1, rfl, hc⟩ := c2_form (HROW.out.move HF.out) hlt
      obtain ⟨c0, c1⟩ := hc k hlt
      have HCL := Lib.hid (isC_any l[k] s b wr (HF.out.cell HB.out))
      have HTK : Hid (memN s (l.take (k + 1)) = (memN s (l.take k) || decide (l[k].name = s))) := by rw [Hid, memN, List.take_succ_eq_append_getElem hlt, List.any_append]; simp [memN]
      have HYES : Hid (decide (l[k].name = s) = true → memN s l = true) := fun h => by
        unfold memN
        rw [List.any_eq_true]
        exact ⟨l[k], List.getElem_mem hlt, h⟩
      have i1 : (0 : Int) ≤ (k : Int) := by omega
      have i2 : (k : Int) < (l.length : Int) := by omega
      clear hc
      generalize decide (l[k].name = s) = D at *
      generalize l[k] = d at *
      obtain ⟨nm, im⟩ := d
      dsimp only [C2.val] at *
      cases D with
      | true =>
        have HR := Lib.hid (HYES.out rfl)
        clear HYES HTK
        go_wp2_with (fail)
        all_goals try (exfalso; omega)
        refine HCL.out.mono ?_
        rintro e w1 ⟨rfl, hf⟩
        have HF2 := Lib.hid (HF.out.trans hf)
        clear hf
        go_wp2
        go_ret
        exact ⟨_, rfl, by rw [HR.out, decide_eq_true i1], HF2.out⟩
      | false =>
        have HN : Hid (memN s (l.take (k + 1)) = false) := by rw [Hid, HTK.out, HM.out]; rfl
        clear HYES HTK
        go_wp2_with (fail)
        all_goals try (exfalso; omega)
        refine HCL.out.mono ?_
        rintro e w1 ⟨rfl, hf⟩
        have HF2 := Lib.hid (HF.out.trans hf)
        clear hf
        go_wp2
        go_roundw
        case rel => exact ⟨k + 1, by simp, by omega, HN.out, HF2.out⟩
        case measure => simp [intOf]; omega
    · obtain rfl : k = l.length := by omega
      have HR : Hid (memN s l = false) := by have := HM.out; rw [List.take_length] at this; exact this
      go_wp2
      all_goals try (exfalso; omega)
      go_ret
      exact ⟨_, rfl, by rw [HR.out]; rfl, HF.out⟩
theorem containsC_any (l : List C2) (a : Option Addr) (c : Nat) (s : ByteArray) (b : Nat) (w : World) (hr : RowAt w a (c2s l)) (hb : w.cell? ⟨b, 0, none⟩ = some (.string s)) (hl : l.length ≤ 4000000) :
    Calls Tryz.prog 185 #[.slice a l.length c, .func (.func 186) #[] #[.pointer (some ⟨b, 0, none⟩)]] w fun e w' => e = .returned (.bool (memN s l)) ∧ Fresh w w' := by
  have HI := Lib.hid (indexC_any l a c s b w hr hb hl)
  clear hr hb hl
  generalize l.length = n at *
  generalize memN s l = M at *
  go_enter Tryz.func185, Tryz.ntmps185
  go_wp2_with (fail)
  refine HI.out.mono ?_
  rintro e w1 ⟨i, rfl, hi, hf⟩
  go_wp2
  go_ret
  first | exact ⟨rfl, hf⟩ | exact ⟨ret_bool hi, hf⟩
set_option maxHeartbeats 2000000 in
theorem faultC_any (d : C2) (l : List C2) (a : Option Addr) (c : Nat) (w : World) (hr : RowAt w a (c2s l)) (hl : l.length ≤ 4000000) (h1 : d.name.size ≤ maxLen) (h2 : d.image.size ≤ maxLen) :
    Calls Tryz.prog 178 #[d.val, .slice a l.length c] w fun e w' => e = .returned (.int .i64 (c2E l d)) ∧ Fresh w w' := by
  obtain ⟨nm, im⟩ := d
  have HA := Lib.hid (at_new w (.cells #[.string nm, .string im] 160))
  have HF0 := Lib.hid ((Fresh.refl w).alloc (.cells #[.string nm, .string im] 160))
  have HLB := Lib.hid (fun W => label_any nm W h1)
  have HIM := Lib.hid (fun W => image_any im W h2)
  have HCO := Lib.hid (containsC_any l a c nm w.heap.size _ (hr.move HF0.out) (cell_of_at HA.out rfl) hl)
  have HE : Hid (c2E l ⟨nm, im⟩ = if labB nm.data.toList = true then (if memN nm l = true then 8 else if imgB im.data.toList = true then 0 else 6) else 13) := rfl
  dsimp only [C2.val] at *
  clear hr hl h1 h2
  generalize c2E l ⟨nm, im⟩ = E at *
  generalize memN nm l = M at *
  generalize l.length = n at *
  cases hlb : labB nm.data.toList with
  | false =>
    rw [hlb] at HLB
    have HR : Hid (E = 13) := by rw [Hid, HE.out, if_neg (by rw [hlb]; simp)]
    clear HE hlb
    go_enter Tryz.func178, Tryz.ntmps178
    go_wp2_with (fail)
    refine (HLB.out _).mono ?_
    rintro e w1 ⟨rfl, rfl⟩
    go_wp2
    go_ret
    exact ⟨ret_int HR.out.symm, HF0.out⟩
  | true =>
    rw [hlb] at HLB
    have HE2 : Hid (E = if M = true then 8 else if imgB im.data.toList = true then 0 else 6) := by rw [Hid, HE.out, if_pos hlb]
    clear HE hlb
    go_enter Tryz.func178, Tryz.ntmps178
    go_wp2_with (fail)
    refine (HLB.out _).mono ?_
    rintro e w1 ⟨rfl, rfl⟩
    go_wp2_with (fail)
    refine HCO.out.mono ?_
    rintro e w1 ⟨rfl, hf⟩
    obtain ⟨q0, q1, _⟩ := c2_box (c := ⟨nm, im⟩) (hf.at HA.out)
    have HF := Lib.hid (HF0.out.trans hf)
    clear hf
    cases M with
    | true =>
      have HR : Hid (E = 8) := by rw [Hid, HE2.out, if_pos rfl]
      go_wp2
      go_ret
      exact ⟨ret_int HR.out.symm, HF.out⟩
    | false =>
      have HE3 : Hid (E = if imgB im.data.toList = true then 0 else 6) := by rw [Hid, HE2.out, if_neg (by simp)]
      go_wp2_with (fail)
      refine (HIM.out _).mono ?_
      rintro e w2 ⟨rfl, rfl⟩
      cases him : imgB im.data.toList with
      | true =>
        have HR : Hid (E = 0) := by rw [Hid, HE3.out, if_pos him]
        go_wp2
        go_ret
        exact ⟨ret_int HR.out.symm, HF.out⟩
      | false =>
        have HR : Hid (E = 6) := by rw [Hid, HE3.out, if_neg (by rw [him]; simp)]
        go_wp2
        go_ret
        exact ⟨ret_int HR.out.symm, HF.out⟩
end Go.Proofs.YtldncgelghcjeaaGreatDoor.K
namespace Go.Proofs.YtldncgelghcjeaaGreatDoor.K
open Go.ChangeShapes Go.WideShapes Go.ChangeAt Go.RowKit
set_option maxRecDepth 100000

theorem head2_in {p : P2} {a : ByteArray} (h : fileB p.file = true ∧ nameB p.name.data.toList = true ∧ labB p.ns.data.toList = true) :
    head2E p a = if leS p.file a = true then 6 else if 2 < p.r ∨ p.g < 1 ∨ 3600 < p.g then 7 else if p.cs.length = 0 then 16 else if 16 < p.cs.length then 18 else 0 := by rw [head2E, if_pos h]
set_option maxHeartbeats 8000000 in
theorem fault2_any (m : M2) (ahead : ByteArray) (w : World) (hin : m.In w) (hp : m.p.Fit maxLen) :
    Calls Tryz.prog 164 #[m.val, .string ahead] w fun e w' => e = .returned (.int .i64 (f2E m.p ahead)) ∧ Fresh w w' := by
  obtain ⟨⟨file, name, ns, r, g, cs⟩, a, c⟩ := m
  have HFI := Lib.hid (fun W => file_any file W hp.file)
  have HNM := Lib.hid (fun W => name_tx name W hp.name)
  have HNS := Lib.hid (fun W => label_any ns W hp.ns)
  have HE : Hid (f2E ⟨file, name, ns, r, g, cs⟩ ahead = if head2E ⟨file, name, ns, r, g, cs⟩ ahead = 0 then cs2E (cs.take 0) (cs.drop 0) else head2E ⟨file, name, ns, r, g, cs⟩ ahead) := rfl
  have HH : Hid (head2E ⟨file, name, ns, r, g, cs⟩ ahead = if fileB file = true ∧ nameB name.data.toList = true ∧ labB ns.data.toList = true then
    (if leS file ahead = true then 6 else if 2 < r ∨ g < 1 ∨ 3600 < g then 7 else if cs.length = 0 then 16 else if 16 < cs.length then 18 else 0) else 13) := rfl
  have HLE : Hid (leS file ahead = (Op.bytesLess file.toList ahead.toList || file.toList == ahead.toList)) := rfl
  have hr0 : 0 ≤ r := hp.r0
  have hg0 : 0 ≤ g := hp.g0
  have hrow : RowAt w a (c2s cs) := hin.1
  have hcap : cs.length ≤ c := hin.2
  have HCF : Hid (∀ x ∈ cs, x.name.size ≤ maxLen ∧ x.image.size ≤ maxLen) := hp.cs
  have HA := Lib.hid (at_new w (.cells #[.string file, .string name, .string ns, .int .u8 r, .int .u16 g, .slice a cs.length c] 158))
  have HF0 := Lib.hid ((Fresh.refl w).alloc (.cells #[.string file, .string name, .string ns, .int .u8 r, .int .u16 g, .slice a cs.length c] 158))
  have HROW := Lib.hid hrow
  dsimp only [M2.val] at *
  clear hp hin hrow
  generalize f2E ⟨file, name, ns, r, g, cs⟩ ahead = E at *
  generalize head2E ⟨file, name, ns, r, g, cs⟩ ahead = H at *
  generalize leS file ahead = L at *
  generalize hx1 : Op.bytesLess file.toList ahead.toList = x1 at *
  generalize hx2 : (file.toList == ahead.toList) = x2 at *
  have H13 : Hid (¬ (fileB file = true ∧ nameB name.data.toList = true ∧ labB ns.data.toList = true) → E = 13) := fun h => by
    have : H = 13 := by rw [HH.out, if_neg h]
    rw [HE.out, this, if_neg (by decide)]
  cases hf : fileB file with
  | false =>
    rw [hf] at HFI
    have HR := Lib.hid (H13.out (by rw [hf]; simp))
    clear HE HH H13 hf hx1 hx2
    go_enter Tryz.func164, Tryz.ntmps164
    go_wp2_with (fail)
    refine (HFI.out _).mono ?_
    rintro e w1 ⟨rfl, rfl⟩
    go_wp2
    go_ret
    exact ⟨ret_int HR.out.symm, HF0.out⟩
  | true =>
  rw [hf] at HFI
  cases hn : nameB name.data.toList with
  | false =>
    rw [hn] at HNM
    have HR := Lib.hid (H13.out (by rw [hn]; simp))
    clear HE HH H13 hf hn hx1 hx2
    go_enter Tryz.func164, Tryz.ntmps164
    go_wp2_with (fail)
    refine (HFI.out _).mono ?_
    rintro e w1 ⟨rfl, rfl⟩
    go_wp2_with (fail)
    refine (HNM.out _).mono ?_
    rintro e w1 ⟨rfl, hf⟩
    have HF := Lib.hid (HF0.out.trans hf)
    clear hf
    go_wp2
    go_ret
    exact ⟨ret_int HR.out.symm, HF.out⟩
  | true =>
  rw [hn] at HNM
  cases hs : labB ns.data.toList with
  | false =>
    rw [hs] at HNS
    have HR := Lib.hid (H13.out (by rw [hs]; simp))
    clear HE HH H13 hf hn hs hx1 hx2
    go_enter Tryz.func164, Tryz.ntmps164
    go_wp2_with (fail)
    refine (HFI.out _).mono ?_
    rintro e w1 ⟨rfl, rfl⟩
    go_wp2_with (fail)
    refine (HNM.out _).mono ?_
    rintro e w1 ⟨rfl, hf⟩
    have HF := Lib.hid (HF0.out.trans hf)
    obtain ⟨⟨q0, q1, q2, q3, q4, q5⟩, _⟩ := m2_box (m := ⟨⟨file, name, ns, r, g, cs⟩, a, c⟩) (hf.at HA.out)
    clear hf
    dsimp only at q0 q1 q2 q3 q4 q5
    go_wp2_with (fail)
    refine (HNS.out _).mono ?_
    rintro e w2 ⟨rfl, rfl⟩
    go_wp2
    go_ret
    exact ⟨ret_int HR.out.symm, HF.out⟩
  | true =>
  rw [hs] at HNS
  have HH2 : Hid (H = if L = true then 6 else if 2 < r ∨ g < 1 ∨ 3600 < g then 7 else if cs.length = 0 then 16 else if 16 < cs.length then 18 else 0) := by rw [Hid, HH.out, if_pos ⟨hf, hn, hs⟩]
  clear HH H13 hf hn hs
  have HBAD : Hid (∀ k : Int, H = k → k ≠ 0 → E = k) := fun k h h0 => by rw [HE.out, h, if_neg h0]
  go_enter Tryz.func164, Tryz.ntmps164
  go_wp2_with (fail)
  refine (HFI.out _).mono ?_
  rintro e w1 ⟨rfl, rfl⟩
  go_wp2_with (fail)
  refine (HNM.out _).mono ?_
  rintro e w1 ⟨rfl, hf⟩
  have HF := Lib.hid (HF0.out.trans hf)
  have HA1 := Lib.hid (hf.at HA.out)
  obtain ⟨⟨q0, q1, q2, q3, q4, q5⟩, _⟩ := m2_box (m := ⟨⟨file, name, ns, r, g, cs⟩, a, c⟩) HA1.out
  dsimp only at q0 q1 q2 q3 q4 q5
  clear hf HA HF0
  obtain ⟨b, hb⟩ : ∃ b, b = w.heap.size := ⟨_, rfl⟩
  rw [← hb] at q0 q1 q2 q3 q4 q5 HA1 ⊢
  clear hb
  go_wp2_with (fail)
  refine (HNS.out _).mono ?_
  rintro e w2 ⟨rfl, rfl⟩
  cases hl : (x1 || x2) with
  | true =>
    have HR := Lib.hid (HBAD.out 6 (by rw [HH2.out, HLE.out, hl, if_pos rfl]) (by decide))
    clear HH2 HLE HE HBAD
    cases x1 <;> cases x2 <;> simp at hl <;> (go_wp2; go_ret; exact ⟨ret_int HR.out.symm, HF.out⟩)
  | false =>
  have HH3 : Hid (H = if 2 < r ∨ g < 1 ∨ 3600 < g then 7 else if cs.length = 0 then 16 else if 16 < cs.length then 18 else 0) := by rw [Hid, HH2.out, HLE.out, hl, if_neg (by simp)]
  clear HH2 HLE
  simp only [Bool.or_eq_false_iff] at hl
  obtain ⟨rfl, rfl⟩ := hl
  by_cases hrg : 2 < r ∨ g < 1 ∨ 3600 < g
  · have HR := Lib.hid (HBAD.out 7 (by rw [HH3.out, if_pos hrg]) (by decide))
    clear HH3 HE HBAD
    by_cases h1 : 2 < r
    · go_wp2
      all_goals try (exfalso; omega)
      go_ret
      exact ⟨ret_int HR.out.symm, HF.out⟩
    by_cases h2 : g < 1
    · go_wp2
      all_goals try (exfalso; omega)
      go_ret
      exact ⟨ret_int HR.out.symm, HF.out⟩
    have h3 : 3600 < g := by omega
    go_wp2
    all_goals try (exfalso; omega)
    go_ret
    exact ⟨ret_int HR.out.symm, HF.out⟩
  have h1 : ¬ 2 < r := by omega
  have h2 : ¬ g < 1 := by omega
  have h3 : ¬ 3600 < g := by omega
  have HH4 : Hid (H = if cs.length = 0 then 16 else if 16 < cs.length then 18 else 0) := by rw [Hid, HH3.out, if_neg hrg]
  clear HH3 hrg
  by_cases h0 : cs.length = 0
  · have HR := Lib.hid (HBAD.out 16 (by rw [HH4.out, if_pos h0]) (by decide))
    have e0 : ((cs.length : Int) == 0) = true := by rw [beq_iff_eq]; omega
    clear HH4 HE HBAD
    go_wp2
    all_goals try (exfalso; omega)
    go_ret
    exact ⟨ret_int HR.out.symm, HF.out⟩
  have e0 : ((cs.length : Int) == 0) = false := by rw [beq_eq_false_iff_ne]; omega
  by_cases h16 : 16 < cs.length
  · have HR := Lib.hid (HBAD.out 18 (by rw [HH4.out, if_neg h0, if_pos h16]) (by decide))
    clear HH4 HE HBAD
    go_wp2
    all_goals try (exfalso; omega)
    go_ret
    exact ⟨ret_int HR.out.symm, HF.out⟩
  have HC : Hid (E = cs2E (cs.take 0) (cs.drop 0)) := by
    have : H = 0 := by rw [HH4.out, if_neg h0, if_neg h16]
    rw [Hid, HE.out, if_pos this]
  clear HH4 HE HBAD
  have HROW1 := Lib.hid (HROW.out.move HF.out)
  go_wp2
  all_goals try (exfalso; omega)
  clear q0 q1 q2 q3 q4 q5 hx1 hx2
  go_loopw [57] (fun a57 wr => ∃ (k : Nat), a57 = .int .i64 (k : Int) ∧ k ≤ cs.length ∧ Hid (E = cs2E (cs.take k) (cs.drop k)) ∧ Hid (Fresh w1 wr)) (fun a57 _ => cs.length - (intOf a57).toNat)
  case atStart => exact ⟨0, rfl, Nat.zero_le _, HC.out, Fresh.refl _⟩
  case round =>
    clear HC
    obtain ⟨k, rfl, hk, HE, HFk⟩ := hrel
    by_cases hlt : k < cs.length
    · have hrowk := HROW1.out.move HFk.out
      obtain ⟨gg, o1, rfl, hc⟩ := c2_form hrowk hlt
      obtain ⟨c0, c1⟩ := hc k hlt
      have hb5 := cell_of_at (HFk.out.at HA1.out) (i := 5) rfl
      have hbl := lt_of_at (HFk.out.at HA1.out)
      have HSTEP := Lib.hid (HE.out.trans (cs2E_drop hlt))
      have htl : (cs.take k).length = k := by rw [List.length_take]; omega
      have HFC : Hid (∀ W, Fresh wr W → Calls Tryz.prog 178 #[cs[k].val, .slice (some ⟨gg, o1, none⟩) k c] W fun e w' => e = .returned (.int .i64 (c2E (cs.take k) cs[k])) ∧ Fresh W w') := fun W f => by
        have := faultC_any cs[k] (cs.take k) (some ⟨gg, o1, none⟩) c W ((c2_take hrowk k).move f) (by omega) (HCF.out _ (List.getElem_mem hlt)).1 (HCF.out _ (List.getElem_mem hlt)).2
        rw [htl] at this
        exact this
      clear hc hrowk htl
      generalize c2E (cs.take k) cs[k] = F at *
      generalize cs[k] = d at *
      obtain ⟨nm, im⟩ := d
      dsimp only [C2.val] at *
      have i1 : (0 : Int) ≤ (k : Int) := by omega
      have i2 : (k : Int) < (cs.length : Int) := by omega
      have i3 : (k : Int) ≤ (c : Int) := by omega
      have HP := Lib.hid (at_new wr (.cells #[.string nm, .string im] 160))
      have HFa := Lib.hid ((Fresh.refl wr).alloc (.cells #[.string nm, .string im] 160))
      go_wp2_with (fail)
      all_goals try (exfalso; omega)
      generalize wr.alloc (.cells #[.string nm, .string im] 160) = V1 at *
      obtain ⟨z, hz⟩ : ∃ z, z = wr.heap.size := ⟨_, rfl⟩
      rw [← hz] at HP ⊢
      clear hz c0 c1 hb5 hbl
      have HKP : Hid (∀ W, Fresh V1 W → W.cell? ⟨z, 0, none⟩ = some (.string nm) ∧ W.cell? ⟨z, 1, none⟩ = some (.string im) ∧ W.cell? ⟨b, 5, none⟩ = some (.slice (some ⟨gg, o1, none⟩) cs.length c)) := fun W f =>
        ⟨(c2_box (c := ⟨nm, im⟩) (f.at HP.out)).1, (c2_box (c := ⟨nm, im⟩) (f.at HP.out)).2.1, cell_of_at (f.at (HFa.out.at (HFk.out.at HA1.out))) (i := 5) rfl⟩
      obtain ⟨k0, k1, k2⟩ := HKP.out V1 (.refl _)
      have HK : Hid (Fresh V1 V1.drew) := (Fresh.refl V1).drew
      go_region_held3 (fun w' => (w'.cell? ⟨z, 0, none⟩ = some (.string nm) ∧ w'.cell? ⟨z, 1, none⟩ = some (.string im) ∧ w'.cell? ⟨b, 5, none⟩ = some (.slice (some ⟨gg, o1, none⟩) cs.length c))) (go_keep)
        (first | (go_at_call 178; (with_reducible refine (HFC.out _ (HFa.out.trans HK.out)).mono ?_); rintro e W2 ⟨rfl, hf⟩; have HK := Lib.hid (HK.out.trans hf); obtain ⟨k0, k1, k2⟩ := HKP.out _ HK.out; clear hf))
      have HF2 := Lib.hid ((HFk.out.trans HFa.out).trans HK.out)
      clear k0 k1 k2 HK HKP HFa HP HFC
      by_cases hF : F = 0
      · subst hF
        have HN : Hid (E = cs2E (cs.take (k + 1)) (cs.drop (k + 1))) := by rw [Hid, HSTEP.out, if_pos rfl]
        clear HSTEP
        go_wp2
        go_roundw
        case rel => exact ⟨k + 1, by simp, by omega, HN.out, HF2.out⟩
        case measure => simp [intOf]; omega
      · have HR : Hid (E = F) := by rw [Hid, HSTEP.out, if_neg hF]
        have e1 : (F == 0) = false := by rw [beq_eq_false_iff_ne]; exact hF
        clear HSTEP
        go_wp2
        all_goals try (exfalso; omega)
        go_ret
        exact ⟨ret_int HR.out.symm, HF.out.trans HF2.out⟩
    · obtain rfl : k = cs.length := by omega
      have HR : Hid (E = 0) := by rw [Hid, HE.out, List.drop_of_length_le (Nat.le_refl _)]; rfl
      go_wp2
      all_goals try (exfalso; omega)
      go_ret
      exact ⟨ret_int HR.out.symm, HF.out.trans HFk.out⟩
set_option maxHeartbeats 2000000 in
theorem check2_any (seq : Int) (a : Option Addr) (l : List M2) (c : Nat) (w : World) (h : Row2 w a l) (hf : ∀ m ∈ l, m.p.Fit maxLen) :
    Calls Tryz.prog 141 #[st2 seq a l.length c] w fun e w' => e = .returned (.int .i64 (chk2 (pods2 l))) ∧ Fresh w w' := by
  have HROW := Lib.hid h
  have HFT := Lib.hid hf
  have hpl : (pods2 l).length = l.length := by simp [pods2]
  have HC : Hid (chk2 (pods2 l) = if 1024 < l.length then 18 else chk2F (ahead2 (pods2 l) 0) ((pods2 l).drop 0)) := by rw [Hid, chk2, hpl]; rfl
  have HA := Lib.hid (at_new w (.cells #[.int .u64 seq, .slice a l.length c] 66))
  have HF0 := Lib.hid ((Fresh.refl w).alloc (.cells #[.int .u64 seq, .slice a l.length c] 66))
  dsimp only [st2]
  clear h hf
  generalize chk2 (pods2 l) = E at *
  by_cases hm : 1024 < l.length
  · have HR : Hid (E = 18) := by rw [Hid, HC.out, if_pos hm]
    clear HC
    go_enter Tryz.func141, Tryz.ntmps141
    go_wp2
    all_goals try (exfalso; omega)
    go_ret
    exact ⟨ret_int HR.out.symm, HF0.out⟩
  · have HC2 : Hid (E = chk2F (ahead2 (pods2 l) 0) ((pods2 l).drop 0)) := by rw [Hid, HC.out, if_neg hm]
    clear HC
    go_enter Tryz.func141, Tryz.ntmps141
    go_wp2
    all_goals try (exfalso; omega)
    generalize w.alloc (.cells #[.int .u64 seq, .slice a l.length c] 66) = W0 at *
    go_loopw [3, 14] (fun a3 a14 wr => ∃ (k : Nat), a14 = .int .i64 (k : Int) ∧ a3 = .string (ahead2 (pods2 l) k) ∧ k ≤ l.length ∧ Hid (E = chk2F (ahead2 (pods2 l) k) ((pods2 l).drop k)) ∧ Hid (Fresh W0 wr)) (fun _ a14 _ => l.length - (intOf a14).toNat)
    case atStart => exact ⟨0, rfl, rfl, Nat.zero_le _, HC2.out, Fresh.refl _⟩
    case round =>
      obtain ⟨k, rfl, rfl, hk, HE, HF⟩ := hrel
      by_cases hlt : k < l.length
      · have hR := (HROW.out.move HF0.out).move HF.out
        obtain ⟨g, o1, rfl, hc⟩ := m2_form hR.row hlt
        obtain ⟨c0, c1, c2, c3, c4, c5⟩ := hc k hlt
        have HFA : Hid (∀ W, Fresh wr W → Calls Tryz.prog 164 #[l[k].val, .string (ahead2 (pods2 l) k)] W fun e w' => e = .returned (.int .i64 (f2E l[k].p (ahead2 (pods2 l) k))) ∧ Fresh W w') := fun W f => fault2_any l[k] (ahead2 (pods2 l) k) W ((hR.ins _ (List.getElem_mem hlt)).move f) (HFT.out _ (List.getElem_mem hlt))
        have hkp : k < (pods2 l).length := by omega
        have hpk : (pods2 l)[k] = l[k].p := by simp [pods2]
        have HSTEP : Hid (E = if f2E l[k].p (ahead2 (pods2 l) k) = 0 then chk2F l[k].p.file ((pods2 l).drop (k + 1)) else f2E l[k].p (ahead2 (pods2 l) k)) := by
          have := HE.out.trans (chk2F_drop hkp _)
          rw [hpk] at this; exact this
        have HAH : Hid (ahead2 (pods2 l) (k + 1) = l[k].p.file) := by have := ahead2_succ (pods2 l) k hkp; rw [hpk] at this; exact this
        clear hc hR hkp hpk
        generalize f2E l[k].p (ahead2 (pods2 l) k) = F at *
        generalize ahead2 (pods2 l) k = ah at *
        generalize l[k] = m at *
        obtain ⟨⟨file, name, ns, r, gr, cs⟩, ca, cc⟩ := m
        dsimp only [M2.val] at *
        generalize cs.length = n at *
        have HP := Lib.hid (at_new wr (.cells #[.string file, .string name, .string ns, .int .u8 r, .int .u16 gr, .slice ca n cc] 158))
        have HF1 := Lib.hid ((Fresh.refl wr).alloc (.cells #[.string file, .string name, .string ns, .int .u8 r, .int .u16 gr, .slice ca n cc] 158))
        by_cases hF : F = 0
        · subst hF
          have HN : Hid (E = chk2F file ((pods2 l).drop (k + 1))) := by rw [Hid, HSTEP.out, if_pos rfl]
          clear HSTEP
          go_wp2_with (fail)
          all_goals try (exfalso; omega)
          refine (HFA.out _ HF1.out).mono ?_
          rintro e w1 ⟨rfl, hf⟩
          have q0 := cell_of_at (hf.at HP.out) (i := 0) rfl
          have HF2 := Lib.hid ((HF.out.trans HF1.out).trans hf)
          clear hf
          go_wp2
          go_roundw
          case rel => exact ⟨k + 1, by simp, by rw [HAH.out], by omega, by rw [HAH.out]; exact HN.out, HF2.out⟩
          case measure => simp [intOf]; omega
        · have HR : Hid (E = F) := by rw [Hid, HSTEP.out, if_neg hF]
          have e0 : (F == 0) = false := by rw [beq_eq_false_iff_ne]; exact hF
          clear HSTEP
          go_wp2_with (fail)
          all_goals try (exfalso; omega)
          refine (HFA.out _ HF1.out).mono ?_
          rintro e w1 ⟨rfl, hf⟩
          have HF2 := Lib.hid ((HF.out.trans HF1.out).trans hf)
          clear hf
          go_wp2
          all_goals try (exfalso; omega)
          go_ret
          exact ⟨ret_int HR.out.symm, HF0.out.trans HF2.out⟩
      · obtain rfl : k = l.length := by omega
        have HR : Hid (E = 0) := by rw [Hid, HE.out, List.drop_of_length_le (by omega)]; rfl
        go_wp2
        all_goals try (exfalso; omega)
        go_ret
        exact ⟨ret_int HR.out.symm, HF0.out.trans HF.out⟩
end Go.Proofs.YtldncgelghcjeaaGreatDoor.K
namespace Go.Proofs.YtldncgelghcjeaaGreatDoor.K
open Go.ChangeShapes Go.WideShapes Go.ChangeAt Go.RowKit
set_option maxRecDepth 100000

set_option maxHeartbeats 2000000 in
theorem encode2_bad (seq : Int) (a : Option Addr) (l : List M2) (c : Nat) (w : World) (h : Row2 w a l) (hf : ∀ m ∈ l, m.p.Fit maxLen) (hb : chk2 (pods2 l) ≠ 0) :
    Calls Tryz.prog 105 #[st2 seq a l.length c] w fun e w' => e = .returned (.tuple #[.string ⟨#[]⟩, .int .i64 (chk2 (pods2 l))]) ∧ Fresh w w' := by
  have HF0 := Lib.hid ((Fresh.refl w).alloc (.cells #[.int .u64 seq, .slice a l.length c] 66))
  have HC := Lib.hid (check2_any seq a l c _ (h.move HF0.out) hf)
  dsimp only [st2] at *
  clear h hf
  generalize chk2 (pods2 l) = E at *
  have e0 : (E != 0) = true := by simpa using hb
  clear hb
  go_enter Tryz.func105, Tryz.ntmps105
  go_wp2_with (fail)
  refine HC.out.mono ?_
  rintro e w1 ⟨rfl, hf⟩
  have HF := Lib.hid (HF0.out.trans hf)
  clear hf
  go_wp2
  go_ret2
  exact ⟨rfl, HF.out⟩
set_option maxHeartbeats 4000000 in
theorem encode2_ok (seq : Int) (a : Option Addr) (l : List M2) (c : Nat) (w : World) (h : Row2 w a l) (hf : ∀ m ∈ l, m.p.Fit maxLen) (h0 : chk2 (pods2 l) = 0) (hs0 : 0 ≤ seq) (hs1 : seq ≤ 18446744073709551615) :
    Calls Tryz.prog 105 #[st2 seq a l.length c] w fun e w' => e = .returned (.tuple #[.string (tx (enc2L seq (pods2 l))), .int .i64 0]) ∧ Fresh w w' := by
  have hA := at_new w (.cells #[.int .u64 seq, .slice a l.length c] 66)
  have HF0 := Lib.hid ((Fresh.refl w).alloc (.cells #[.int .u64 seq, .slice a l.length c] 66))
  have hck := check2_any seq a l c _ (h.move HF0.out) hf
  rw [h0] at hck
  have HC := Lib.hid hck
  have hpl : (pods2 l).length = l.length := by simp [pods2]
  have hnum : ∀ p ∈ pods2 l, p.Num := fun p hp => by
    obtain ⟨m, hm, rfl⟩ := List.mem_map.1 hp
    have := hf m hm
    exact ⟨this.r0, this.r1, this.g0, this.g1⟩
  obtain ⟨hlen, hfit⟩ := chk2_fit h0 hnum
  rw [hpl] at hlen
  have HFT := Lib.hid hfit
  have HROW := Lib.hid (h.move HF0.out)
  have HENC : Hid (enc2L seq (pods2 l) = be 8 seq.toNat ++ (be 2 l.length ++ (pods2 l).flatMap pod2L)) := by rw [Hid, enc2L, hpl]
  have HP8 := Lib.hid (fun W => put_yes 8 seq W (by decide) hs0 (by omega))
  have HP2 := Lib.hid (fun W => put_yes 2 (l.length : Int) W (by decide) (by omega) (by omega))
  have hw2 : IntKind.u64.wrap (l.length : Int) = (l.length : Int) := wrap_u64' (by omega) (by omega)
  have HA := Lib.hid hA
  rw [show (8 : Int).toNat = 8 from rfl] at HP8
  rw [show (2 : Int).toNat = 2 from rfl, Int.toNat_natCast] at HP2
  dsimp only [st2] at *
  clear h hf h0 hck hfit hA hnum
  go_enter Tryz.func105, Tryz.ntmps105
  go_wp2_with (fail)
  refine HC.out.mono ?_
  rintro e w1 ⟨rfl, hf⟩
  obtain ⟨q0, q1, _⟩ := st2_box (hf.at HA.out)
  have HF1 := Lib.hid (HF0.out.trans hf)
  have HROW1 := Lib.hid (HROW.out.move hf)
  have HA1 := Lib.hid (hf.at HA.out)
  have hBL := bld_new w1
  have HF2 := Lib.hid ((Fresh.refl w1).alloc (.cells #[.pointer none, .slice none 0 0] 100))
  have HA2 := Lib.hid (at_alloc (p := .cells #[.pointer none, .slice none 0 0] 100) HA1.out)
  have HBL := Lib.hid hBL
  have hzl := lt_of_at HA1.out
  clear hf hBL HROW HA HC
  obtain ⟨z, hz⟩ : ∃ z, z = w.heap.size := ⟨_, rfl⟩
  rw [← hz] at q0 q1 HA1 HA2 hzl ⊢
  clear hz
  go_wp2_with (fail)
  refine (HP8.out _).mono ?_
  rintro e w2 ⟨rfl, hf2⟩
  have HW := Lib.hid (HF2.out.trans hf2)
  have HB := Lib.hid (HBL.out.fresh hf2)
  have HAk := Lib.hid (hf2.at HA2.out)
  clear hf2 HBL HF2 HA2 q0 q1 hzl
  obtain ⟨b, hb⟩ : ∃ b, b = w1.heap.size := ⟨_, rfl⟩
  have HBB := Lib.hid hb
  rw [← hb] at HB ⊢
  clear hb
  go_wp2_with (fail)
  refine (write_any b b [] (beS 8 seq.toNat) _ HB.out (by rw [beS_size]; simp) (by have := HW.out.size; rw [HBB.out]; exact this)).mono ?_
  rintro e w3 ⟨rfl, hb3, hf3⟩
  have HW := Lib.hid (HW.out.below hf3 (by rw [HBB.out]; exact Nat.le_refl _))
  have HB := Lib.hid hb3
  obtain ⟨q0, q1, _⟩ := st2_box (HW.out.at HA1.out)
  clear hf3 hb3
  go_wp2_with (fail)
  refine (HP2.out _).mono ?_
  rintro e w4 ⟨rfl, hf4⟩
  have HW := Lib.hid (HW.out.trans hf4)
  have HB := Lib.hid (HB.out.fresh hf4)
  clear hf4 q0 q1
  go_wp2_with (fail)
  refine (write_any b b _ (beS 2 l.length) _ HB.out (by rw [beS_size]; simp [beS, be_length]) (by have := HW.out.size; rw [HBB.out]; exact this)).mono ?_
  rintro e w5 ⟨rfl, hb5, hf5⟩
  have HW := Lib.hid (HW.out.below hf5 (by rw [HBB.out]; exact Nat.le_refl _))
  have HB : Hid (Bld b b (be 8 seq.toNat ++ (be 2 l.length ++ ((pods2 l).take 0).flatMap pod2L)) w5) := by
    simpa [Hid, beS] using hb5
  obtain ⟨q0, q1, _⟩ := st2_box (HW.out.at HA1.out)
  clear hf5 hb5
  go_wp2
  clear q0 q1
  go_loopw [26] (fun a26 wr => ∃ (k : Nat), a26 = .int .i64 (k : Int) ∧ k ≤ l.length ∧ Hid (Bld b b (be 8 seq.toNat ++ (be 2 l.length ++ ((pods2 l).take k).flatMap pod2L)) wr) ∧ Hid (Fresh w1 wr)) (fun a26 _ => l.length - (intOf a26).toNat)
  case atStart => exact ⟨0, rfl, Nat.zero_le _, HB.out, HW.out⟩
  case round =>
    obtain ⟨k, rfl, hk, HBk, HF⟩ := hrel
    by_cases hlt : k < l.length
    · have hR := HROW1.out.move HF.out
      obtain ⟨g, o1, rfl, hc⟩ := m2_form hR.row hlt
      obtain ⟨c0, c1, c2, c3, c4, c5⟩ := hc k hlt
      have hkp : k < (pods2 l).length := by omega
      have hpk : (pods2 l)[k] = l[k].p := by simp [pods2]
      have hfi := HFT.out _ (List.getElem_mem hkp)
      rw [hpk] at hfi
      have HIN := Lib.hid (hR.ins _ (List.getElem_mem hlt))
      have HPB := Lib.hid (fun W (f : Fresh wr W) => podB2_any l[k] W (HIN.out.move f) hfi.1 hfi.2)
      have HTK : Hid (((pods2 l).take (k + 1)).flatMap pod2L = ((pods2 l).take k).flatMap pod2L ++ pod2L l[k].p) := by
        rw [Hid, List.take_succ_eq_append_getElem hkp, List.flatMap_append, hpk]; simp
      have HLN : Hid ((be 8 seq.toNat ++ (be 2 l.length ++ ((pods2 l).take k).flatMap pod2L)).length + (tx (pod2L l[k].p)).size ≤ 140737488355328) := by
        have h1 := flat_le pod2L 9000 ((pods2 l).take k) (fun p hp => pod2L_len (HFT.out p (List.mem_of_mem_take hp)).1 (HFT.out p (List.mem_of_mem_take hp)).2)
        have h2 := pod2L_len hfi.1 hfi.2
        have h3 : ((pods2 l).take k).length * 9000 ≤ 1024 * 9000 := Nat.mul_le_mul (by rw [List.length_take]; omega) (Nat.le_refl _)
        rw [Hid, tx_size]
        simp only [List.length_append, be_length]
        omega
      clear hc hR hkp hpk hfi HIN
      have HPL := Lib.hid (tx_toList (pod2L l[k].p))
      generalize tx (pod2L l[k].p) = PB at *
      generalize pod2L l[k].p = PL at *
      generalize l[k] = m at *
      obtain ⟨⟨file, name, ns, r, gr, cs⟩, ca, cc⟩ := m
      dsimp only [M2.val] at *
      generalize cs.length = n at *
      have HF1 := Lib.hid ((Fresh.refl wr).alloc (.cells #[.string file, .string name, .string ns, .int .u8 r, .int .u16 gr, .slice ca n cc] 158))
      go_wp2_with (fail)
      all_goals try (exfalso; omega)
      refine (HPB.out _ HF1.out).mono ?_
      rintro e w6 ⟨rfl, hf6⟩
      have HFq := Lib.hid (HF1.out.trans hf6)
      have HB6 := Lib.hid (HBk.out.fresh HFq.out)
      have HFr := Lib.hid (HF.out.trans HFq.out)
      clear hf6 HF1
      go_wp2_with (fail)
      refine (write_any b b _ PB _ HB6.out HLN.out (by have := HFr.out.size; rw [HBB.out]; exact this)).mono ?_
      rintro e w7 ⟨rfl, hb7, hf7⟩
      have HW7 := Lib.hid (HFr.out.below hf7 (by rw [HBB.out]; exact Nat.le_refl _))
      have HB7 : Hid (Bld b b (be 8 seq.toNat ++ (be 2 l.length ++ ((pods2 l).take (k + 1)).flatMap pod2L)) w7) := by
        rw [Hid, HTK.out, ← List.append_assoc, ← List.append_assoc, ← HPL.out]
        simpa [List.append_assoc] using hb7
      clear hf7 hb7
      go_wp2
      go_roundw
      case rel => exact ⟨k + 1, by simp, by omega, HB7.out, HW7.out⟩
      case measure => simp [intOf]; omega
    · obtain rfl : k = l.length := by omega
      have HB9 : Hid (Bld b b (enc2L seq (pods2 l)) wr) := by
        have := HBk.out
        rw [List.take_of_length_le (by omega)] at this
        rw [Hid, HENC.out]; exact this
      have HS := Lib.hid (str_any b b (enc2L seq (pods2 l)) wr HB9.out (by have := HF.out.size; rw [HBB.out]; exact this))
      go_wp2_with (fail)
      all_goals try (exfalso; omega)
      refine HS.out.mono ?_
      rintro e w8 ⟨rfl, hf8⟩
      have HF9 := Lib.hid ((HF1.out.trans HF.out).below hf8 (by rw [HBB.out]; exact HF1.out.size))
      clear hf8
      go_wp2
      go_ret2
      exact ⟨rfl, HF9.out⟩
end Go.Proofs.YtldncgelghcjeaaGreatDoor.K
namespace Go.Proofs.YtldncgelghcjeaaGreatDoor.K
open Go.ChangeShapes Go.WideShapes Go.ChangeAt Go.RowKit
set_option maxRecDepth 100000

theorem ex2_bytes : tx (enc2L 1 []) = ⟨#[0, 0, 0, 0, 0, 0, 0, 1, 0, 0]⟩ := by decide +kernel
theorem ex2_encode (w : World) : Calls Tryz.prog 105 #[.agg #[.int .u64 1, .slice none 0 0]] w fun e w' => e = .returned (.tuple #[.string ⟨#[0, 0, 0, 0, 0, 0, 0, 1, 0, 0]⟩, .int .i64 0]) ∧ Fresh w w' := by
  have := encode2_ok 1 none [] 0 w (.nil _ _) (by simp) rfl (by decide) (by decide)
  rw [show pods2 [] = [] from rfl, ex2_bytes] at this
  exact this
theorem awake18_any (w : World) : Calls Tryz.prog 70 #[] w fun e w' => e = .returned (.bool true) ∧ Fresh w w' := by
  have H1 := Lib.hid (fun W => ex2_encode W)
  have H2 := Lib.hid (fun W => awake17_any W)
  go_enter Tryz.func70, Tryz.ntmps70
  go_wp2_with (fail)
  refine (H1.out _).mono ?_
  rintro e w1 ⟨rfl, hf⟩
  have HF := Lib.hid hf
  clear hf
  go_wp2_with (fail)
  refine (H2.out _).mono ?_
  rintro e w2 ⟨rfl, hf⟩
  have HF := Lib.hid (HF.out.trans hf)
  clear hf
  go_wp2
  go_ret
  exact ⟨rfl, HF.out⟩
end Go.Proofs.YtldncgelghcjeaaGreatDoor.K
