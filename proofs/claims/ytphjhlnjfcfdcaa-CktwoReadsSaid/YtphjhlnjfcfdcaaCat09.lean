/-
  What a strings.Builder does when a text is written leaves what is of another type.
  The bytes of a pod of version 2, by package cktwo.
  What package cktwo's Encode returns.
  What the laws of version 2 use: awake.
-/
import Derived.Test.YtphjhlnjfcfdcaaCat08
import Derived.Test.YtphjhlnjfcfdcaaCat02
import Derived.Test.YtphjhlnjfcfdcaaCat04
namespace Go.Proofs.Ytphjhlnjfcfdcaa
open Go.ChangeShapes Go.WideShapes Go.ChangeAt Go.RowKit
set_option maxRecDepth 100000

/-- Blocks that are no builder's stay. -/
def KeepsT (w w' : World) : Prop := ∀ (k : Nat) (cs : Array Value) (t : TypeId), w.heap[k]? = some (Obj.cells cs t) → t ≠ 5 → t ≠ 71 → w'.heap[k]? = some (Obj.cells cs t)
theorem KeepsT.refl (w : World) : KeepsT w w := fun _ _ _ h _ _ => h
theorem copy_any2 (B b : Nat) (l : List UInt8) (w : World) (h : Bld B b l w) :
    Calls Try.prog 71 #[.pointer (some ⟨b, 0, none⟩)] w fun e w' => e = .returned (.tuple #[]) ∧ (Lib.BuilderAt 71 5 B b (.pointer (some ⟨b, 0, none⟩)) (Lib.byteCells l) w' ∧ Below B w w' ∧ KeepsT w w') := by
  rcases h with h | h
  · obtain ⟨hB, v, hbk, _⟩ := id h
    refine (copy_fresh b w h.cell0 h.shape h.frozen0).mono ?_
    rintro e w' ⟨rfl, rfl⟩
    refine ⟨rfl, h.used _, (Below.refl B w).setCell (p := ⟨b, 0, none⟩) h.1 _, fun k cs t hk _ h2 => at_off hk (fun e => ?_) _⟩
    subst e
    rw [hbk] at hk
    cases hk
    exact h2 rfl
  · refine (copy_used b w h.cell0).mono ?_
    rintro e w' ⟨rfl, rfl⟩
    exact ⟨rfl, h, Below.refl B _, .refl _⟩
set_option maxHeartbeats 1000000 in
theorem write_any2 (B b : Nat) (l : List UInt8) (s : ByteArray) (w : World) (h : Bld B b l w) (hlen : l.length + s.size ≤ 140737488355328) (hBw : B ≤ w.heap.size) :
    Calls Try.prog 37 #[.pointer (some ⟨b, 0, none⟩), .string s] w fun e w' => e = .returned (.tuple #[.int .i64 s.size, .nilIface]) ∧ Bld B b (l ++ s.data.toList) w' ∧ Below B w w' ∧ KeepsT w w' := by
  obtain ⟨i0, hi, hz0, hz1, hz2⟩ := info_parts info5
  have HC := Lib.hid (copy_any2 B b l w h)
  have hl : (Lib.byteCells l).length = l.length := bytes_len l
  clear h
  go_enter Try.func37, Try.ntmps37
  go_wp2_with (fail)
  refine HC.out.mono ?_
  rintro e w1 ⟨rfl, h1, hb1, hk1⟩
  have HK1 := Lib.hid hk1
  obtain ⟨hB, v, hbk, hown, hne⟩ := h1
  have c0 : w1.cell? ⟨b, 0, none⟩ = some (.pointer (some ⟨b, 0, none⟩)) := by rw [Lib.cell_of_heap hbk]; rfl
  have c1 : w1.cell? ⟨b, 1, none⟩ = some v := by rw [Lib.cell_of_heap hbk]; rfl
  have hsz := hb1.size
  clear hk1
  go_wp2_with (at_builtin; refine Lib.wpList_append_own_string _ rfl _ _ 69 9 rfl B 5 i0 Try.underlying69 Try.underlying9 hi hz0 hz1 hz2 _ _ _ rfl hown s rfl ?c3 ?c4 ?c5 ?_)
  case c3 => unfold maxLen; omega
  case c4 => omega
  case c5 => omega
  intro v' w2 hown' hgrow _
  have hlt : b < w1.heap.size := lt_of_at hbk
  have hb2 : w2.heap[b]? = some (.cells #[.pointer (some ⟨b, 0, none⟩), v] 71 (0, 0)) := by
    rw [hgrow.block b hlt (fun e => hne e.symm)]
    exact hbk
  have HK2 : Hid (∀ u, KeepsT w (w2.setCell ⟨b, 1, none⟩ u)) := fun u k cs t hk n1 n2 => by
    have hk := HK1.out k cs t hk n1 n2
    have hkb : k ≠ b := fun e => by
      subst e
      rw [hbk] at hk
      cases hk
      exact n2 rfl
    refine at_off ((hgrow.block k (lt_of_at hk) (fun e => ?_)).trans hk) hkb _
    rcases hown.2 with ⟨rfl, _⟩ | ⟨g, cap, cur, rfl, _, hg, _⟩
    · cases e
    · have : k = g := by simpa [Value.ownBlock] using e
      subst this
      rw [hg] at hk
      cases hk
      exact n1 rfl
  have d0 : w2.cell? ⟨b, 0, none⟩ = some (.pointer (some ⟨b, 0, none⟩)) := by rw [Lib.cell_of_heap hb2]; rfl
  have d1 : w2.cell? ⟨b, 1, none⟩ = some v := by rw [Lib.cell_of_heap hb2]; rfl
  have f1 : w2.frozen? ⟨b, 1, none⟩ = false := Lib.frozen_of_heap hb2 1
  obtain ⟨ao, n', cap, rfl⟩ : ∃ ao n' cap, v' = .slice ao n' cap := by
    rcases hown'.2 with ⟨hv, _⟩ | ⟨g, cap, cur, hv, _⟩
    · exact ⟨_, _, _, hv⟩
    · exact ⟨_, _, _, hv⟩
  go_wp2
  go_ret2
  refine ⟨rfl, .inr ?_, ?_, HK2.out _⟩
  · refine Lib.BuilderAt.put (T := 71) (e := 5) hB hb2 (bs' := Lib.byteCells (l ++ s.data.toList)) ?_ (by decide)
    have := hown'
    rw [str_cells, bytes_app] at this
    rw [bytes_len, List.length_append]
    rw [← Lib.size_eq]
    exact this
  · exact (hb1.grown hgrow (by omega) (fun k hk => (hown.lt k hk).1)).setCell (p := ⟨b, 1, none⟩) hB _
end Go.Proofs.Ytphjhlnjfcfdcaa
namespace Go.Proofs.Ytphjhlnjfcfdcaa
open Go.ChangeShapes Go.WideShapes Go.ChangeAt Go.RowKit
set_option maxRecDepth 100000

theorem text2_any (s : ByteArray) (w : World) (h : s.size ≤ 4096) : Calls Try.prog 77 #[.string s] w fun e w' => e = .returned (.string (tx (txtL s))) ∧ Fresh w w' := by
  have HT := Lib.hid (fun W => text_ok s W h)
  rw [txt_tx] at HT
  go_enter Try.func77, Try.ntmps77
  go_wp2_with (fail)
  refine (HT.out _).mono ?_
  rintro e w' ⟨rfl, hg⟩
  go_wp2
  go_ret
  exact ⟨rfl, hg⟩
theorem pod2_parts (p : P2) : tx (((txtL p.file ++ txtL p.name ++ txtL p.ns) ++ (be 1 p.r.toNat ++ be 2 p.g.toNat) ++ be 1 p.cs.length) ++ p.cs.flatMap cL) = tx (pod2L p) := by
  rw [pod2L]; simp only [List.append_assoc]
set_option maxHeartbeats 8000000 in
theorem podB2_any (m : M2) (w : World) (hin : m.In w) (hp : m.p.Fit 255) (hl : m.p.cs.length ≤ 16) : Calls Try.prog 54 #[m.val] w fun e w' => e = .returned (.string (tx (pod2L m.p))) ∧ Fresh w w' := by
  have HPP := Lib.hid (pod2_parts m.p)
  obtain ⟨⟨file, name, ns, r, g, cs⟩, a, c⟩ := m
  have HFC : Hid (∀ x ∈ cs, x.name.size ≤ 255 ∧ x.image.size ≤ 255) := hp.cs
  have H1 := Lib.hid (fun W => text2_any file W (Nat.le_trans hp.file (by decide)))
  have H2 := Lib.hid (fun W => text2_any name W (Nat.le_trans hp.name (by decide)))
  have H3 := Lib.hid (fun W => text2_any ns W (Nat.le_trans hp.ns (by decide)))
  have hr0 : 0 ≤ r := hp.r0
  have hr1 : r ≤ 255 := hp.r1
  have hg0 : 0 ≤ g := hp.g0
  have hg1 : g ≤ 65535 := hp.g1
  have H4 := Lib.hid (fun W => put_yes 1 r W (by decide) hr0 (by omega))
  have H5 := Lib.hid (fun W => put_yes 2 g W (by decide) hg0 (by omega))
  have H6 := Lib.hid (fun W => put_yes 1 (cs.length : Int) W (by decide) (by omega) (by have : cs.length ≤ 16 := hl; omega))
  have z1 : (tx (txtL file)).size ≤ 300 := by rw [tx_size, txtL_len]; have := hp.file; dsimp only at this; omega
  have z2 : (tx (txtL name)).size ≤ 300 := by rw [tx_size, txtL_len]; have := hp.name; dsimp only at this; omega
  have z3 : (tx (txtL ns)).size ≤ 300 := by rw [tx_size, txtL_len]; have := hp.ns; dsimp only at this; omega
  have z4 : (beS 1 r.toNat).size = 1 := beS_size _ _
  have z5 : (beS 2 g.toNat).size = 2 := beS_size _ _
  have z6 : (beS 1 cs.length).size = 1 := beS_size _ _
  have hw1 := wrap_byte hr0 hr1
  have hw2 := wrap_u64' hg0 (by omega)
  have hw3 : IntKind.u64.wrap (cs.length : Int) = (cs.length : Int) := wrap_u64' (by omega) (by have : cs.length ≤ 16 := hl; omega)
  have HROW : Hid (RowAt w a (c2s cs)) := hin.1
  have hl16 : cs.length ≤ 16 := hl
  dsimp only [M2.val] at *
  rw [show (1 : Int).toNat = 1 from rfl] at H4
  rw [show (2 : Int).toNat = 2 from rfl] at H5
  rw [show (1 : Int).toNat = 1 from rfl, Int.toNat_natCast] at H6
  clear hp hin hl
  have HL1 : Hid ((tx (txtL file) ++ tx (txtL name) ++ tx (txtL ns)).data.toList = txtL file ++ txtL name ++ txtL ns) := by
    rw [Hid, tx_app, tx_app, tx_toList]
  have HL2 : Hid ((beS 1 r.toNat ++ beS 2 g.toNat).data.toList = be 1 r.toNat ++ be 2 g.toNat) := by
    rw [Hid, beS_tx, beS_tx, tx_app, tx_toList]
  have HL3 : Hid ((beS 1 cs.length).data.toList = be 1 cs.length) := by rw [Hid, beS_tx, tx_toList]
  rw [← HL1.out, ← HL2.out, ← HL3.out] at HPP
  clear HL1 HL2 HL3
  generalize tx (txtL file) = A at *
  generalize tx (txtL name) = B at *
  generalize tx (txtL ns) = C at *
  generalize beS 1 r.toNat = D at *
  generalize beS 2 g.toNat = E at *
  generalize beS 1 cs.length = F at *
  rw [← HPP.out]
  have s1 : (A ++ B).size ≤ 600 := by rw [ByteArray.size_append]; omega
  have s2 : (A ++ B ++ C).size ≤ 900 := by rw [ByteArray.size_append]; omega
  have s3 : (D ++ E).size = 3 := by rw [ByteArray.size_append]; omega
  have a1 := add_run A B _ (by omega) rfl
  have a2 := add_run (A ++ B) C _ (by omega) rfl
  have a3 := add_run D E _ (by omega) rfl
  generalize A ++ B ++ C = ABC at *
  generalize A ++ B = AB at *
  generalize D ++ E = DE at *
  clear HPP
  have HA := Lib.hid (at_new w (.cells #[.string file, .string name, .string ns, .int .u8 r, .int .u16 g, .slice a cs.length c] 98))
  have HF0 := Lib.hid ((Fresh.refl w).alloc (.cells #[.string file, .string name, .string ns, .int .u8 r, .int .u16 g, .slice a cs.length c] 98))
  have HROW := Lib.hid (HROW.out.move HF0.out)
  have HBL := Lib.hid (bld_new (w.alloc (.cells #[.string file, .string name, .string ns, .int .u8 r, .int .u16 g, .slice a cs.length c] 98)))
  have hW : Fresh (w.alloc (.cells #[.string file, .string name, .string ns, .int .u8 r, .int .u16 g, .slice a cs.length c] 98)) ((w.alloc (.cells #[.string file, .string name, .string ns, .int .u8 r, .int .u16 g, .slice a cs.length c] 98)).alloc (.cells #[.pointer none, .slice none 0 0] 71)) := (Fresh.refl _).alloc _
  have HW0 := Lib.hid hW
  clear hW
  go_enter Try.func54, Try.ntmps54
  go_wp2_with (fail)
  obtain ⟨z, hz⟩ : ∃ z, z = w.heap.size := ⟨_, rfl⟩
  obtain ⟨b, hb⟩ : ∃ b, b = (w.alloc (.cells #[.string file, .string name, .string ns, .int .u8 r, .int .u16 g, .slice a cs.length c] 98)).heap.size := ⟨_, rfl⟩
  have hbz : b = z + 1 := by rw [hb, World.size_alloc, hz]
  have hb2 : w.heap.size + 1 = b := by omega
  rw [← hb] at HBL
  rw [← hz] at HA hb2
  rw [← hz]
  have HBB := Lib.hid hb
  rw [hb2]
  clear hz hb hb2 hbz
  generalize w.alloc (.cells #[.string file, .string name, .string ns, .int .u8 r, .int .u16 g, .slice a cs.length c] 98) = V0 at *
  generalize V0.alloc (.cells #[.pointer none, .slice none 0 0] 71) = W1 at *
  have HKP : Hid (∀ W, Fresh V0 W → W.cell? ⟨z, 0, none⟩ = some (.string file) ∧ W.cell? ⟨z, 1, none⟩ = some (.string name) ∧ W.cell? ⟨z, 2, none⟩ = some (.string ns) ∧ W.cell? ⟨z, 3, none⟩ = some (.int .u8 r) ∧ W.cell? ⟨z, 4, none⟩ = some (.int .u16 g) ∧ W.cell? ⟨z, 5, none⟩ = some (.slice a cs.length c)) := fun W f =>
    (m2_box (m := ⟨⟨file, name, ns, r, g, cs⟩, a, c⟩) (f.at HA.out)).1
  obtain ⟨k0, k1, k2, k3, k4, k5⟩ := HKP.out W1 HW0.out
  have HW : Hid (Fresh V0 W1.drew) := HW0.out.drew
  have HB : Hid (Bld b b [] W1.drew) := HBL.out
  have HBW : Hid (∀ W, Fresh V0 W → b ≤ W.heap.size) := fun W f => by rw [HBB.out]; exact f.size
  have HBV : Hid (V0.heap.size ≤ b) := by rw [Hid, HBB.out]; exact Nat.le_refl _
  have HLN : Hid (([] : List UInt8).length + ABC.size ≤ 140737488355328) := by rw [Hid, List.length_nil]; omega
  clear HBL HA
  go_region_held3 (fun w' => (w'.cell? ⟨z, 0, none⟩ = some (.string file) ∧ w'.cell? ⟨z, 1, none⟩ = some (.string name) ∧ w'.cell? ⟨z, 2, none⟩ = some (.string ns))) (go_keep)
    (first
      | (go_at_call 77; (with_reducible refine (H1.out _).mono ?_); rintro e W2 ⟨rfl, hf⟩; have HB := Lib.hid (HB.out.fresh hf); have HW := Lib.hid (HW.out.trans hf); obtain ⟨k0, k1, k2, k3, k4, k5⟩ := HKP.out _ HW.out; clear hf)
      | (go_at_call 77; (with_reducible refine (H2.out _).mono ?_); rintro e W2 ⟨rfl, hf⟩; have HB := Lib.hid (HB.out.fresh hf); have HW := Lib.hid (HW.out.trans hf); obtain ⟨k0, k1, k2, k3, k4, k5⟩ := HKP.out _ HW.out; clear hf)
      | (go_at_call 77; (with_reducible refine (H3.out _).mono ?_); rintro e W2 ⟨rfl, hf⟩; have HB := Lib.hid (HB.out.fresh hf); have HW := Lib.hid (HW.out.trans hf); obtain ⟨k0, k1, k2, k3, k4, k5⟩ := HKP.out _ HW.out; clear hf)
      | (go_at_call 37; (with_reducible refine (write_any b b [] ABC _ HB.out HLN.out (HBW.out _ HW.out)).mono ?_); rintro e W2 ⟨rfl, hb3, hf⟩; have HB := Lib.hid hb3; have HW := Lib.hid (HW.out.below hf HBV.out); obtain ⟨k0, k1, k2, k3, k4, k5⟩ := HKP.out _ HW.out; clear hf hb3))
  have HB : Hid (Bld b b ABC.data.toList W2.drew) := HB.out
  have HW : Hid (Fresh V0 W2.drew) := HW.out.drew
  have HLN3 : Hid (ABC.data.toList.length + DE.size ≤ 140737488355328) := by rw [Hid, ← Lib.size_eq]; omega
  go_wp2_with (fail)
  go_region_held3 (fun w' => (w'.cell? ⟨z, 3, none⟩ = some (.int .u8 r) ∧ w'.cell? ⟨z, 4, none⟩ = some (.int .u16 g))) (go_keep)
    (first
      | (go_at_call 38; (with_reducible refine (H4.out _).mono ?_); rintro e W3 ⟨rfl, hf⟩; have HB := Lib.hid (HB.out.fresh hf); have HW := Lib.hid (HW.out.trans hf); obtain ⟨k0, k1, k2, k3, k4, k5⟩ := HKP.out _ HW.out; clear hf)
      | (go_at_call 38; (with_reducible refine (H5.out _).mono ?_); rintro e W3 ⟨rfl, hf⟩; have HB := Lib.hid (HB.out.fresh hf); have HW := Lib.hid (HW.out.trans hf); obtain ⟨k0, k1, k2, k3, k4, k5⟩ := HKP.out _ HW.out; clear hf)
      | (go_at_call 37; (with_reducible refine (write_any b b ABC.data.toList DE _ HB.out HLN3.out (HBW.out _ HW.out)).mono ?_); rintro e W3 ⟨rfl, hb3, hf⟩; have HB := Lib.hid hb3; have HW := Lib.hid (HW.out.below hf HBV.out); obtain ⟨k0, k1, k2, k3, k4, k5⟩ := HKP.out _ HW.out; clear hf hb3))
  have HLN4 : Hid ((ABC.data.toList ++ DE.data.toList).length + F.size ≤ 140737488355328) := by rw [Hid, List.length_append, ← Lib.size_eq, ← Lib.size_eq]; omega
  go_wp2_with (fail)
  refine (H6.out _).mono ?_
  rintro e W4 ⟨rfl, hf⟩
  have HB := Lib.hid (HB.out.fresh hf)
  have HW := Lib.hid (HW.out.trans hf)
  clear hf
  go_wp2_with (fail)
  refine (write_any b b _ F _ HB.out HLN4.out (HBW.out _ HW.out)).mono ?_
  rintro e W5 ⟨rfl, hb5, hf⟩
  have HB := Lib.hid hb5
  have HW := Lib.hid (HW.out.below hf HBV.out)
  obtain ⟨q0, q1, q2, q3, q4, q5⟩ := HKP.out _ HW.out
  have HP0 : Hid ((ABC.data.toList ++ DE.data.toList ++ F.data.toList).length ≤ 1000) := by rw [Hid, List.length_append, List.length_append, ← Lib.size_eq, ← Lib.size_eq, ← Lib.size_eq]; omega
  clear hf hb5 H1 H2 H3 H4 H5 H6 a1 a2 a3 HLN HLN3 HLN4
  obtain ⟨P0, hPE⟩ : ∃ P0, P0 = ABC.data.toList ++ DE.data.toList ++ F.data.toList := ⟨_, rfl⟩
  have HPE := Lib.hid hPE
  rw [← hPE] at HB HP0
  clear hPE
  have HB0 : Hid (Bld b b (P0 ++ (cs.take 0).flatMap cL) W5) := by rw [Hid, List.take_zero, List.flatMap_nil, List.append_nil]; exact HB.out
  go_wp2
  go_loopw [37] (fun a37 wr => ∃ (k : Nat), a37 = .int .i64 (k : Int) ∧ k ≤ cs.length ∧ Hid (Bld b b (P0 ++ (cs.take k).flatMap cL) wr) ∧ Hid (Fresh V0 wr)) (fun a37 _ => cs.length - (intOf a37).toNat)
  case atStart => exact ⟨0, rfl, Nat.zero_le _, HB0.out, HW.out⟩
  case round =>
  clear HB0 HB HW
  obtain ⟨k, rfl, hk, HBk, HF⟩ := hrel
  by_cases hlt : k < cs.length
  case pos =>
    obtain ⟨gc, oc, rfl, hc⟩ := c2_form (HROW.out.move HF.out) hlt
    obtain ⟨l0, l1⟩ := hc k hlt
    have HTK : Hid ((cs.take (k + 1)).flatMap cL = (cs.take k).flatMap cL ++ cL cs[k]) := by
      rw [Hid, List.take_succ_eq_append_getElem hlt, List.flatMap_append]; simp
    have hx := HFC.out _ (List.getElem_mem hlt)
    have HPL : Hid ((P0 ++ (cs.take k).flatMap cL).length ≤ 20000) := by
      have h1 := flat_le cL 514 (cs.take k) (fun c hc => cL_len (HFC.out c (List.mem_of_mem_take hc)))
      have h3 : (cs.take k).length * 514 ≤ 16 * 514 := Nat.mul_le_mul (by rw [List.length_take]; omega) (Nat.le_refl _)
      have := HP0.out
      rw [Hid, List.length_append]
      omega
    clear hc
    generalize cs[k] = x at *
    obtain ⟨x1, x2⟩ := x
    obtain ⟨hx1, hx2⟩ := hx
    dsimp only at hx1 hx2 l0 l1
    have J1 := Lib.hid (fun W => text2_any x1 W (Nat.le_trans hx1 (by decide)))
    have J2 := Lib.hid (fun W => text2_any x2 W (Nat.le_trans hx2 (by decide)))
    have y1 : (tx (txtL x1)).size ≤ 300 := by rw [tx_size, txtL_len]; omega
    have y2 : (tx (txtL x2)).size ≤ 300 := by rw [tx_size, txtL_len]; omega
    have HCL : Hid ((tx (txtL x1) ++ tx (txtL x2)).data.toList = cL ⟨x1, x2⟩) := by rw [Hid, tx_app, tx_toList]; rfl
    generalize tx (txtL x1) = A1 at *
    generalize tx (txtL x2) = A2 at *
    have y3 : (A1 ++ A2).size ≤ 600 := by rw [ByteArray.size_append]; omega
    have a1 := add_run A1 A2 _ (by omega) rfl
    generalize A1 ++ A2 = A12 at *
    have HLk : Hid ((P0 ++ (cs.take k).flatMap cL).length + A12.size ≤ 140737488355328) := by have := HPL.out; rw [Hid]; omega
    have HCB : Hid ((wr.alloc (.cells #[.string x1, .string x2] 100)).heap[wr.heap.size]? = some (.cells #[.string x1, .string x2] 100)) := at_new wr _
    have HW0 : Hid (Fresh V0 (wr.alloc (.cells #[.string x1, .string x2] 100))) := HF.out.alloc _
    have HB0 : Hid (Bld b b (P0 ++ (cs.take k).flatMap cL) (wr.alloc (.cells #[.string x1, .string x2] 100))) := HBk.out.fresh ((Fresh.refl wr).alloc _)
    go_wp2_with (fail)
    all_goals try (exfalso; omega)
    generalize wr.alloc (.cells #[.string x1, .string x2] 100) = X1 at *
    generalize wr.heap.size = cb at *
    have k0 := cell_of_at HCB.out (i := 0) rfl
    have k1 := cell_of_at HCB.out (i := 1) rfl
    have HW : Hid (Fresh V0 X1.drew) := HW0.out.drew
    have HB : Hid (Bld b b (P0 ++ (cs.take k).flatMap cL) X1.drew) := HB0.out
    have HC : Hid (X1.drew.heap[cb]? = some (.cells #[.string x1, .string x2] 100)) := HCB.out
    clear HB0 HW0 HCB
    go_region_held3 (fun w' => (w'.cell? ⟨cb, 0, none⟩ = some (.string x1) ∧ w'.cell? ⟨cb, 1, none⟩ = some (.string x2))) (go_keep)
      (first
        | (go_at_call 77; (with_reducible refine (J1.out _).mono ?_); rintro e W6 ⟨rfl, hf⟩; have HB := Lib.hid (HB.out.fresh hf); have HW := Lib.hid (HW.out.trans hf); have HC := Lib.hid (hf.at HC.out); have k0 := cell_of_at HC.out (i := 0) rfl; have k1 := cell_of_at HC.out (i := 1) rfl; clear hf)
        | (go_at_call 77; (with_reducible refine (J2.out _).mono ?_); rintro e W6 ⟨rfl, hf⟩; have HB := Lib.hid (HB.out.fresh hf); have HW := Lib.hid (HW.out.trans hf); have HC := Lib.hid (hf.at HC.out); have k0 := cell_of_at HC.out (i := 0) rfl; have k1 := cell_of_at HC.out (i := 1) rfl; clear hf)
        | (go_at_call 37; (with_reducible refine (write_any2 b b _ A12 _ HB.out HLk.out (HBW.out _ HW.out)).mono ?_); rintro e W6 ⟨rfl, hb3, hf, hkt⟩; have HB := Lib.hid hb3; have HW := Lib.hid (HW.out.below hf HBV.out); have HC := Lib.hid (hkt _ _ _ HC.out (by decide) (by decide)); have k0 := cell_of_at HC.out (i := 0) rfl; have k1 := cell_of_at HC.out (i := 1) rfl; clear hf hb3 hkt))
    have HN : Hid (Bld b b (P0 ++ (cs.take (k + 1)).flatMap cL) W6) := by
      rw [Hid, HTK.out, ← HCL.out, ← List.append_assoc]; exact HB.out
    go_wp2
    go_roundw
    case rel => exact ⟨k + 1, by simp, by omega, HN.out, HW.out⟩
    case measure => simp [intOf]; omega
  case neg =>
    obtain rfl : k = cs.length := by omega
    have HB9 : Hid (Bld b b (P0 ++ cs.flatMap cL) wr) := by
      have := HBk.out
      rw [List.take_length] at this; exact this
    have HS := Lib.hid (str_any b b (P0 ++ cs.flatMap cL) wr HB9.out (HBW.out _ HF.out))
    go_wp2_with (fail)
    all_goals try (exfalso; omega)
    refine HS.out.mono ?_
    rintro e W8 ⟨rfl, hf8⟩
    have HF9 := Lib.hid ((HF0.out.trans HF.out).below hf8 (Nat.le_trans HF0.out.size HBV.out))
    clear hf8
    go_wp2
    go_ret
    exact ⟨by rw [← HPE.out]; rfl, HF9.out⟩
end Go.Proofs.Ytphjhlnjfcfdcaa
namespace Go.Proofs.Ytphjhlnjfcfdcaa
open Go.ChangeShapes Go.WideShapes Go.ChangeAt Go.RowKit
set_option maxRecDepth 100000

set_option maxHeartbeats 2000000 in
theorem encode2_bad (seq : Int) (a : Option Addr) (l : List M2) (c : Nat) (w : World) (h : Row2 w a l) (hf : ∀ m ∈ l, m.p.Fit maxLen) (hb : chk2 (pods2 l) ≠ 0) :
    Calls Try.prog 26 #[st2 seq a l.length c] w fun e w' => e = .returned (.tuple #[.string ⟨#[]⟩, .int .i64 (chk2 (pods2 l))]) ∧ Fresh w w' := by
  have HF0 := Lib.hid ((Fresh.refl w).alloc (.cells #[.int .u64 seq, .slice a l.length c] 49))
  have HC := Lib.hid (check2_any seq a l c _ (h.move HF0.out) hf)
  dsimp only [st2] at *
  clear h hf
  generalize chk2 (pods2 l) = E at *
  have e0 : (E != 0) = true := by simpa using hb
  clear hb
  go_enter Try.func26, Try.ntmps26
  go_wp2_with (fail)
  refine HC.out.mono ?_
  rintro e w1 ⟨rfl, hf⟩
  have HF := Lib.hid (HF0.out.trans hf)
  clear hf
  go_wp2
  go_ret2
  exact ⟨rfl, HF.out⟩
set_option maxHeartbeats 4000000 in
theorem encode2_ok (seq : Int) (a : Option Addr) (l : List M2) (c : Nat) (w : World) (h : Row2 w a l) (hf : ∀ m ∈ l, m.p.Fit maxLen) (h0 : chk2 (pods2 l) = 0) (hs0 : 0 ≤ seq) (hs1 : seq ≤ 18446744073709551615) :
    Calls Try.prog 26 #[st2 seq a l.length c] w fun e w' => e = .returned (.tuple #[.string (tx (enc2L seq (pods2 l))), .int .i64 0]) ∧ Fresh w w' := by
  have hA := at_new w (.cells #[.int .u64 seq, .slice a l.length c] 49)
  have HF0 := Lib.hid ((Fresh.refl w).alloc (.cells #[.int .u64 seq, .slice a l.length c] 49))
  have hck := check2_any seq a l c _ (h.move HF0.out) hf
  rw [h0] at hck
  have HC := Lib.hid hck
  have hpl : (pods2 l).length = l.length := by simp [pods2]
  have hnum : ∀ p ∈ pods2 l, p.Num := fun p hp => by
    obtain ⟨m, hm, rfl⟩ := List.mem_map.1 hp
    have := hf m hm
    exact ⟨this.r0, this.r1, this.g0, this.g1⟩
  obtain ⟨hlen, hfit⟩ := chk2_fit h0 hnum
  rw [hpl] at hlen
  have HFT := Lib.hid hfit
  have HROW := Lib.hid (h.move HF0.out)
  have HENC : Hid (enc2L seq (pods2 l) = be 8 seq.toNat ++ (be 2 l.length ++ (pods2 l).flatMap pod2L)) := by rw [Hid, enc2L, hpl]
  have HP8 := Lib.hid (fun W => put_yes 8 seq W (by decide) hs0 (by omega))
  have HP2 := Lib.hid (fun W => put_yes 2 (l.length : Int) W (by decide) (by omega) (by omega))
  have hw2 : IntKind.u64.wrap (l.length : Int) = (l.length : Int) := wrap_u64' (by omega) (by omega)
  have HA := Lib.hid hA
  rw [show (8 : Int).toNat = 8 from rfl] at HP8
  rw [show (2 : Int).toNat = 2 from rfl, Int.toNat_natCast] at HP2
  dsimp only [st2] at *
  clear h hf h0 hck hfit hA hnum
  go_enter Try.func26, Try.ntmps26
  go_wp2_with (fail)
  refine HC.out.mono ?_
  rintro e w1 ⟨rfl, hf⟩
  obtain ⟨q0, q1, _⟩ := st2_box (hf.at HA.out)
  have HF1 := Lib.hid (HF0.out.trans hf)
  have HROW1 := Lib.hid (HROW.out.move hf)
  have HA1 := Lib.hid (hf.at HA.out)
  have hBL := bld_new w1
  have HF2 := Lib.hid ((Fresh.refl w1).alloc (.cells #[.pointer none, .slice none 0 0] 71))
  have HA2 := Lib.hid (at_alloc (p := .cells #[.pointer none, .slice none 0 0] 71) HA1.out)
  have HBL := Lib.hid hBL
  have hzl := lt_of_at HA1.out
  clear hf hBL HROW HA HC
  obtain ⟨z, hz⟩ : ∃ z, z = w.heap.size := ⟨_, rfl⟩
  rw [← hz] at q0 q1 HA1 HA2 hzl ⊢
  clear hz
  go_wp2_with (fail)
  refine (HP8.out _).mono ?_
  rintro e w2 ⟨rfl, hf2⟩
  have HW := Lib.hid (HF2.out.trans hf2)
  have HB := Lib.hid (HBL.out.fresh hf2)
  have HAk := Lib.hid (hf2.at HA2.out)
  clear hf2 HBL HF2 HA2 q0 q1 hzl
  obtain ⟨b, hb⟩ : ∃ b, b = w1.heap.size := ⟨_, rfl⟩
  have HBB := Lib.hid hb
  rw [← hb] at HB ⊢
  clear hb
  go_wp2_with (fail)
  refine (write_any b b [] (beS 8 seq.toNat) _ HB.out (by rw [beS_size]; simp) (by have := HW.out.size; rw [HBB.out]; exact this)).mono ?_
  rintro e w3 ⟨rfl, hb3, hf3⟩
  have HW := Lib.hid (HW.out.below hf3 (by rw [HBB.out]; exact Nat.le_refl _))
  have HB := Lib.hid hb3
  obtain ⟨q0, q1, _⟩ := st2_box (HW.out.at HA1.out)
  clear hf3 hb3
  go_wp2_with (fail)
  refine (HP2.out _).mono ?_
  rintro e w4 ⟨rfl, hf4⟩
  have HW := Lib.hid (HW.out.trans hf4)
  have HB := Lib.hid (HB.out.fresh hf4)
  clear hf4 q0 q1
  go_wp2_with (fail)
  refine (write_any b b _ (beS 2 l.length) _ HB.out (by rw [beS_size]; simp [beS, be_length]) (by have := HW.out.size; rw [HBB.out]; exact this)).mono ?_
  rintro e w5 ⟨rfl, hb5, hf5⟩
  have HW := Lib.hid (HW.out.below hf5 (by rw [HBB.out]; exact Nat.le_refl _))
  have HB : Hid (Bld b b (be 8 seq.toNat ++ (be 2 l.length ++ ((pods2 l).take 0).flatMap pod2L)) w5) := by
    simpa [Hid, beS] using hb5
  obtain ⟨q0, q1, _⟩ := st2_box (HW.out.at HA1.out)
  clear hf5 hb5
  go_wp2
  clear q0 q1
  go_loopw [26] (fun a26 wr => ∃ (k : Nat), a26 = .int .i64 (k : Int) ∧ k ≤ l.length ∧ Hid (Bld b b (be 8 seq.toNat ++ (be 2 l.length ++ ((pods2 l).take k).flatMap pod2L)) wr) ∧ Hid (Fresh w1 wr)) (fun a26 _ => l.length - (intOf a26).toNat)
  case atStart => exact ⟨0, rfl, Nat.zero_le _, HB.out, HW.out⟩
  case round =>
    obtain ⟨k, rfl, hk, HBk, HF⟩ := hrel
    by_cases hlt : k < l.length
    · have hR := HROW1.out.move HF.out
      obtain ⟨g, o1, rfl, hc⟩ := m2_form hR.row hlt
      obtain ⟨c0, c1, c2, c3, c4, c5⟩ := hc k hlt
      have hkp : k < (pods2 l).length := by omega
      have hpk : (pods2 l)[k] = l[k].p := by simp [pods2]
      have hfi := HFT.out _ (List.getElem_mem hkp)
      rw [hpk] at hfi
      have HIN := Lib.hid (hR.ins _ (List.getElem_mem hlt))
      have HPB := Lib.hid (fun W (f : Fresh wr W) => podB2_any l[k] W (HIN.out.move f) hfi.1 hfi.2)
      have HTK : Hid (((pods2 l).take (k + 1)).flatMap pod2L = ((pods2 l).take k).flatMap pod2L ++ pod2L l[k].p) := by
        rw [Hid, List.take_succ_eq_append_getElem hkp, List.flatMap_append, hpk]; simp
      have HLN : Hid ((be 8 seq.toNat ++ (be 2 l.length ++ ((pods2 l).take k).flatMap pod2L)).length + (tx (pod2L l[k].p)).size ≤ 140737488355328) := by
        have h1 := flat_le pod2L 9000 ((pods2 l).take k) (fun p hp => pod2L_len (HFT.out p (List.mem_of_mem_take hp)).1 (HFT.out p (List.mem_of_mem_take hp)).2)
        have h2 := pod2L_len hfi.1 hfi.2
        have h3 : ((pods2 l).take k).length * 9000 ≤ 1024 * 9000 := Nat.mul_le_mul (by rw [List.length_take]; omega) (Nat.le_refl _)
        rw [Hid, tx_size]
        simp only [List.length_append, be_length]
        omega
      clear hc hR hkp hpk hfi HIN
      have HPL := Lib.hid (tx_toList (pod2L l[k].p))
      generalize tx (pod2L l[k].p) = PB at *
      generalize pod2L l[k].p = PL at *
      generalize l[k] = m at *
      obtain ⟨⟨file, name, ns, r, gr, cs⟩, ca, cc⟩ := m
      dsimp only [M2.val] at *
      generalize cs.length = n at *
      have HF1 := Lib.hid ((Fresh.refl wr).alloc (.cells #[.string file, .string name, .string ns, .int .u8 r, .int .u16 gr, .slice ca n cc] 98))
      go_wp2_with (fail)
      all_goals try (exfalso; omega)
      refine (HPB.out _ HF1.out).mono ?_
      rintro e w6 ⟨rfl, hf6⟩
      have HFq := Lib.hid (HF1.out.trans hf6)
      have HB6 := Lib.hid (HBk.out.fresh HFq.out)
      have HFr := Lib.hid (HF.out.trans HFq.out)
      clear hf6 HF1
      go_wp2_with (fail)
      refine (write_any b b _ PB _ HB6.out HLN.out (by have := HFr.out.size; rw [HBB.out]; exact this)).mono ?_
      rintro e w7 ⟨rfl, hb7, hf7⟩
      have HW7 := Lib.hid (HFr.out.below hf7 (by rw [HBB.out]; exact Nat.le_refl _))
      have HB7 : Hid (Bld b b (be 8 seq.toNat ++ (be 2 l.length ++ ((pods2 l).take (k + 1)).flatMap pod2L)) w7) := by
        rw [Hid, HTK.out, ← List.append_assoc, ← List.append_assoc, ← HPL.out]
        simpa [List.append_assoc] using hb7
      clear hf7 hb7
      go_wp2
      go_roundw
      case rel => exact ⟨k + 1, by simp, by omega, HB7.out, HW7.out⟩
      case measure => simp [intOf]; omega
    · obtain rfl : k = l.length := by omega
      have HB9 : Hid (Bld b b (enc2L seq (pods2 l)) wr) := by
        have := HBk.out
        rw [List.take_of_length_le (by omega)] at this
        rw [Hid, HENC.out]; exact this
      have HS := Lib.hid (str_any b b (enc2L seq (pods2 l)) wr HB9.out (by have := HF.out.size; rw [HBB.out]; exact this))
      go_wp2_with (fail)
      all_goals try (exfalso; omega)
      refine HS.out.mono ?_
      rintro e w8 ⟨rfl, hf8⟩
      have HF9 := Lib.hid ((HF1.out.trans HF.out).below hf8 (by rw [HBB.out]; exact HF1.out.size))
      clear hf8
      go_wp2
      go_ret2
      exact ⟨rfl, HF9.out⟩
end Go.Proofs.Ytphjhlnjfcfdcaa
namespace Go.Proofs.Ytphjhlnjfcfdcaa
open Go.ChangeShapes Go.WideShapes Go.ChangeAt Go.RowKit
set_option maxRecDepth 100000

theorem ex2_bytes : tx (enc2L 1 []) = ⟨#[0, 0, 0, 0, 0, 0, 0, 1, 0, 0]⟩ := by decide +kernel
theorem ex2_encode (w : World) : Calls Try.prog 26 #[.agg #[.int .u64 1, .slice none 0 0]] w fun e w' => e = .returned (.tuple #[.string ⟨#[0, 0, 0, 0, 0, 0, 0, 1, 0, 0]⟩, .int .i64 0]) ∧ Fresh w w' := by
  have := encode2_ok 1 none [] 0 w (.nil _ _) (by simp) rfl (by decide) (by decide)
  rw [show pods2 [] = [] from rfl, ex2_bytes] at this
  exact this
theorem awake18_any (w : World) : Calls Try.prog 23 #[] w fun e w' => e = .returned (.bool true) ∧ Fresh w w' := by
  have H1 := Lib.hid (fun W => ex2_encode W)
  have H2 := Lib.hid (fun W => awake17_any W)
  go_enter Try.func23, Try.ntmps23
  go_wp2_with (fail)
  refine (H1.out _).mono ?_
  rintro e w1 ⟨rfl, hf⟩
  have HF := Lib.hid hf
  clear hf
  go_wp2_with (fail)
  refine (H2.out _).mono ?_
  rintro e w2 ⟨rfl, hf⟩
  have HF := Lib.hid (HF.out.trans hf)
  clear hf
  go_wp2
  go_ret
  exact ⟨rfl, HF.out⟩
end Go.Proofs.Ytphjhlnjfcfdcaa
