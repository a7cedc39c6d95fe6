/-
  What package ckthree's Encode returns.
  What the laws of version 1 and of pods ask: awake.
  slices.Clone at texts, ports, variables and containers: the same, in a row of its own.
  A copy of a text is that text.
  A container with its defaults, by package spec.
-/
import Derived.Test.YtldncgelghcjeaaGreatDoorCat22
import Derived.Test.YtldncgelghcjeaaGreatDoorCat12
import Derived.Test.YtldncgelghcjeaaGreatDoorCat11
import Derived.Deep.Onto
import Derived.Lib.SliceRun
import Derived.Test.YtldncgelghcjeaaGreatDoorCat01
import Derived.Lib.UnsafeStr
import Derived.Lib.BufferWrite
import Derived.Lib.Walk
import Derived.Laws.BitsAllLaws
import Derived.Test.YtldncgelghcjeaaGreatDoorCat07
import Derived.RegionTactic
import Derived.Deep.RegionHeld3
set_option linter.unusedSimpArgs false
set_option linter.unusedVariables false
namespace Go.Proofs.YtldncgelghcjeaaGreatDoor.K
open Go.ChangeShapes Go.WideShapes Go.ChangeAt Go.RowKit
set_option maxRecDepth 100000

set_option maxHeartbeats 2000000 in
theorem encode3_bad (seq : Int) (a : Option Addr) (l : List M3) (c : Nat) (w : World) (hT : Tabs w) (h : Row3 w a l) (hf : ∀ x ∈ l, x.Fit) (hll : l.length ≤ 1048576) (hb : chk3 (pods3 l) ≠ 0) :
    Calls Tryz.prog 13 #[st3 seq a l.length c] w fun e w' => e = .returned (.tuple #[.string ⟨#[]⟩, .int .i64 (chk3 (pods3 l))]) ∧ Fresh w w' := by
  have HF0 := Lib.hid ((Fresh.refl w).alloc (.cells #[.int .u64 seq, .slice a l.length c] 25))
  have HC := Lib.hid (check3_any seq a l c _ (hT.move HF0.out) (h.move HF0.out) hf hll)
  dsimp only [st3] at *
  clear h hf hT
  generalize chk3 (pods3 l) = E at *
  have e0 : (E != 0) = true := by simpa using hb
  clear hb
  go_enter Tryz.func13, Tryz.ntmps13
  go_wp2_with (fail)
  refine HC.out.mono ?_
  rintro e w1 ⟨rfl, hf⟩
  have HF := Lib.hid (HF0.out.trans hf)
  clear hf
  go_wp2
  go_ret2
  exact ⟨rfl, HF.out⟩
set_option maxHeartbeats 8000000 in
theorem encode3_ok (seq : Int) (a : Option Addr) (l : List M3) (c : Nat) (w : World) (hT : Tabs w) (h : Row3 w a l) (hf : ∀ x ∈ l, x.Fit) (hll : l.length ≤ 1048576) (h0 : chk3 (pods3 l) = 0) (hs0 : 0 ≤ seq) (hs1 : seq ≤ 18446744073709551615) :
    Calls Tryz.prog 13 #[st3 seq a l.length c] w fun e w' => e = .returned (.tuple #[.string (tx (enc3L seq (pods3 l))), .int .i64 0]) ∧ Fresh w w' := by
  have HF0 := Lib.hid ((Fresh.refl w).alloc (.cells #[.int .u64 seq, .slice a l.length c] 25))
  have HA := Lib.hid (at_new w (.cells #[.int .u64 seq, .slice a l.length c] 25))
  have hck := check3_any seq a l c _ (hT.move HF0.out) (h.move HF0.out) hf hll
  rw [h0] at hck
  have HC := Lib.hid hck
  have hpl : (pods3 l).length = l.length := by simp [pods3]
  obtain ⟨hlen, hok⟩ := chk3_ok h0
  rw [hpl] at hlen
  have HOK := Lib.hid hok
  have HROW := Lib.hid (h.move HF0.out)
  have HENC : Hid (enc3L seq (pods3 l) = be 8 seq.toNat ++ be 2 l.length ++ (pods3 l).flatMap pod3L) := by rw [Hid, enc3L, hpl, List.append_assoc]
  have hw2 : IntKind.u64.wrap (l.length : Int) = (l.length : Int) := wrap_u64' (by omega) (by omega)
  dsimp only [st3] at *
  clear h hf hT h0 hck hok hll
  go_enter Tryz.func13, Tryz.ntmps13
  go_wp2_with (fail)
  refine HC.out.mono ?_
  rintro e w1 ⟨rfl, hf⟩
  have HA1 := Lib.hid (hf.at HA.out)
  have HF1 := Lib.hid (HF0.out.trans hf)
  have HROW := Lib.hid (HROW.out.move hf)
  have HF2 := Lib.hid ((Fresh.refl w1).alloc (.cells #[.pointer none, .slice none 0 0] 102))
  have HB := Lib.hid (bldW_new w1)
  have HAX := Lib.hid (HF2.out.at HA1.out)
  obtain ⟨q0, q1, _⟩ := st3_box HAX.out
  clear hf HC HA
  obtain ⟨z, hz⟩ : ∃ z, z = w.heap.size := ⟨_, rfl⟩
  rw [← hz] at q0 q1 HA1 HAX ⊢
  clear hz
  go_wp2_with (fail)
  obtain ⟨b, hbb⟩ : ∃ b, b = w1.heap.size := ⟨_, rfl⟩
  have HBB := Lib.hid hbb
  rw [← hbb] at HB ⊢
  clear hbb
  generalize w1.alloc (.cells #[.pointer none, .slice none 0 0] 102) = W1 at *
  have HKP : Hid (∀ W, Wrt b W1 W → W.cell? ⟨z, 0, none⟩ = some (.int .u64 seq) ∧ W.cell? ⟨z, 1, none⟩ = some (.slice a l.length c)) := fun W f => by
    have k := st3_box (f.keeps _ _ _ HAX.out (by decide) (by decide))
    exact ⟨k.1, k.2.1⟩
  have HWS : Hid (∀ W, Wrt b W1 W → Fresh w1 W) := fun W f => f.fresh HF2.out (by rw [HBB.out]; exact Nat.le_refl _)
  have HBS : Hid (w1.heap.size ≤ b) := by rw [Hid, HBB.out]; exact Nat.le_refl _
  refine (numW_any b _ 8 seq _ HB.out (by decide) (by omega) (by omega) (by simp)).mono ?_
  rintro e w2 ⟨rfl, hb1, hf1⟩
  have HB := Lib.hid hb1
  have HW := Lib.hid hf1
  clear q0 q1 hb1 hf1
  obtain ⟨q0, q1⟩ := HKP.out _ HW.out
  go_wp2_with (fail)
  refine (numW_any b _ 2 (l.length : Int) _ HB.out (by decide) (by omega) (by omega) (by simp [be_length])).mono ?_
  rintro e w3 ⟨rfl, hb1, hf1⟩
  rw [Int.toNat_natCast, List.nil_append] at hb1
  have HB := Lib.hid hb1
  have HW := Lib.hid (HW.out.trans hf1)
  clear q0 q1 hb1 hf1
  obtain ⟨q0, q1⟩ := HKP.out _ HW.out
  have hl1 : (be 8 seq.toNat ++ be 2 l.length).length = 10 := by rw [List.length_append, be_length, be_length]
  generalize hE : be 8 seq.toNat ++ be 2 l.length = P1 at *
  have HE1 := Lib.hid hE
  clear hE
  have HB0 : Hid (BldW b (P1 ++ ((pods3 l).take 0).flatMap pod3L) w3) := by rw [Hid, List.take_zero, List.flatMap_nil, List.append_nil]; exact HB.out
  go_wp2
  clear q0 q1
  go_loopw [28] (fun a28 wr => ∃ (k : Nat), a28 = .int .i64 (k : Int) ∧ k ≤ l.length ∧ Hid (BldW b (P1 ++ ((pods3 l).take k).flatMap pod3L) wr) ∧ Hid (Wrt b W1 wr)) (fun a28 _ => l.length - (intOf a28).toNat)
  case atStart => exact ⟨0, rfl, Nat.zero_le _, HB0.out, HW.out⟩
  case round =>
  clear HB HB0 HW
  obtain ⟨k, rfl, hk, HB, HW⟩ := hrel
  by_cases hlt : k < l.length
  case pos =>
    have hR := HROW.out.move (HWS.out _ HW.out)
    obtain ⟨gb, o1, rfl, hc⟩ := m3_form hR.row hlt
    obtain ⟨c0, c1, c2, c3, c4, c5, c6⟩ := hc k hlt
    have hkp : k < (pods3 l).length := by omega
    have hpk := pods3_get hlt hkp
    have hfi := HOK.out _ (List.getElem_mem hkp)
    rw [hpk] at hfi
    have HFI := Lib.hid hfi
    have HIN := Lib.hid (HROW.out.ins _ (List.getElem_mem hlt))
    have HTK : Hid (((pods3 l).take (k + 1)).flatMap pod3L = ((pods3 l).take k).flatMap pod3L ++ (txtL l[k].file ++ pd3L l[k].m.pd)) := by
      rw [Hid, flat_take pod3L hkp, hpk]; rfl
    have hX : (P1 ++ ((pods3 l).take k).flatMap pod3L).length ≤ 10 + 1024 * 2250000 := by
      have := flat_takele pod3L (pods3 l) k 2250000 1024 (fun p hp => pod3L_len (HOK.out p hp)) (by omega)
      rw [List.length_append]; omega
    clear hc hR hkp hpk hfi
    generalize l[k] = x at *
    obtain ⟨file, ⟨name, ns, r, g, host, ca, cc, cs⟩⟩ := x
    have hfile : file.size ≤ 64 := HFI.out.file
    have HPW : Hid (∀ W, BldW b (P1 ++ ((pods3 l).take k).flatMap pod3L ++ txtL file) W → Fresh w1 W → Calls Tryz.prog 47 #[.pointer (some ⟨b, 0, none⟩), PM.val ⟨name, ns, r, g, host, ca, cc, cs⟩] W fun e w' => e = .returned (.tuple #[]) ∧ BldW b (P1 ++ ((pods3 l).take k).flatMap pod3L ++ txtL file ++ pd3L (PM.pd ⟨name, ns, r, g, host, ca, cc, cs⟩)) w' ∧ Wrt b W w') := fun W hB f =>
      podW_any b _ ⟨name, ns, r, g, host, ca, cc, cs⟩ w1 W hB HIN.out f HBS.out HFI.out.pd (by rw [List.length_append, txtL_len]; omega)
    dsimp only [PM.val] at HPW
    dsimp only at HTK c0 c1 c2 c3 c4 c5 c6
    generalize pd3L (PM.pd ⟨name, ns, r, g, host, ca, cc, cs⟩) = XL at *
    have HPB := Lib.hid (at_new wr (.cells #[.string file, .string name, .string ns, .int .i64 r, .int .i64 g, .bool host, .slice ca cs.length cc] 93))
    have HF3 := Lib.hid ((Fresh.refl wr).alloc (.cells #[.string file, .string name, .string ns, .int .i64 r, .int .i64 g, .bool host, .slice ca cs.length cc] 93))
    have HW := Lib.hid (HW.out.trans (.of HF3.out (Nat.le_trans (Nat.le_of_lt HB.out.lt) (Nat.le_refl _))))
    have HB := Lib.hid (HB.out.fresh HF3.out)
    clear HFI HIN
    go_wp2_with (fail)
    all_goals try (exfalso; omega)
    generalize wr.alloc (.cells #[.string file, .string name, .string ns, .int .i64 r, .int .i64 g, .bool host, .slice ca cs.length cc] 93) = X1 at *
    generalize wr.heap.size = y at *
    refine (textW_any b _ file _ HB.out (by omega) (by omega)).mono ?_
    rintro e w4 ⟨rfl, hb1, hf1⟩
    have HPB := Lib.hid (hf1.keeps _ _ _ HPB.out (by decide) (by decide))
    have HB := Lib.hid hb1
    have HW := Lib.hid (HW.out.trans hf1)
    have r0 := cell_of_at HPB.out (i := 0) rfl
    have r1 := cell_of_at HPB.out (i := 1) rfl
    have r2 := cell_of_at HPB.out (i := 2) rfl
    have r3 := cell_of_at HPB.out (i := 3) rfl
    have r4 := cell_of_at HPB.out (i := 4) rfl
    have r5 := cell_of_at HPB.out (i := 5) rfl
    have r6 := cell_of_at HPB.out (i := 6) rfl
    clear hb1 hf1 c0 c1 c2 c3 c4 c5 c6
    go_wp2_with (fail)
    refine (HPW.out _ HB.out (HWS.out _ HW.out)).mono ?_
    rintro e w5 ⟨rfl, hb1, hf1⟩
    have HB := Lib.hid hb1
    have HW := Lib.hid (HW.out.trans hf1)
    clear hb1 hf1 r0 r1 r2 r3 r4 r5 r6
    go_wp2
    go_roundw
    case rel => exact ⟨k + 1, by simp, by omega, by rw [Hid, HTK.out, ← List.append_assoc, ← List.append_assoc]; exact HB.out, HW.out⟩
    case measure => simp [intOf]; omega
  case neg =>
  obtain rfl : k = l.length := by omega
  have HB : Hid (BldW b (enc3L seq (pods3 l)) wr) := by
    have := HB.out
    rw [List.take_of_length_le (by omega)] at this
    rw [Hid, HENC.out]; exact this
  have HNE : Hid (enc3L seq (pods3 l) ≠ []) := by
    rw [Hid, HENC.out]
    intro e
    have := congrArg List.length e
    rw [List.length_append, hl1] at this
    simp at this
  go_wp2_with (fail)
  all_goals try (exfalso; omega)
  refine (strW_any b _ _ HB.out HNE.out).mono ?_
  rintro e w6 ⟨rfl, hf1⟩
  have HF := Lib.hid ((HF1.out.trans (HWS.out _ HW.out)).below hf1 (Nat.le_trans HF1.out.size HBS.out))
  clear hf1
  go_wp2
  go_ret2
  exact ⟨rfl, HF.out⟩
end Go.Proofs.YtldncgelghcjeaaGreatDoor.K
namespace Go.Proofs.YtldncgelghcjeaaGreatDoor.K
open Go.ChangeShapes Go.WideShapes Go.ChangeAt Go.RowKit
set_option maxRecDepth 100000

theorem awake13_any (w : World) : Calls Tryz.prog 84 #[] w fun e w' => e = .returned (.bool true) ∧ Fresh w w' := by
  have HL1 : Hid (∀ W, Calls Tryz.prog 121 #[.string ⟨#[97, 45, 49]⟩] W fun e w' => e = .returned (.bool true) ∧ W = w') := fun W => label_any ⟨#[97, 45, 49]⟩ W (by decide)
  have HL2 : Hid (∀ W, Calls Tryz.prog 121 #[.string ⟨#[45, 97]⟩] W fun e w' => e = .returned (.bool false) ∧ W = w') := fun W => label_any ⟨#[45, 97]⟩ W (by decide)
  have HN : Hid (∀ W, Calls Tryz.prog 122 #[.string ⟨#[97, 46, 98, 45, 99]⟩] W fun e w' => e = .returned (.bool true) ∧ Fresh W w') := fun W => name_any [97, 46, 98, 45, 99] W (by decide)
  have HV := Lib.hid (fun W => var_any W)
  go_enter Tryz.func84, Tryz.ntmps84
  go_wp2_with (fail)
  refine (HL1.out _).mono ?_
  rintro e w' ⟨rfl, rfl⟩
  go_wp2_with (fail)
  refine (HL2.out _).mono ?_
  rintro e w' ⟨rfl, rfl⟩
  go_wp2_with (fail)
  refine (HN.out _).mono ?_
  rintro e w1 ⟨rfl, hf⟩
  go_wp2_with (fail)
  refine (HV.out _).mono ?_
  rintro e w' ⟨rfl, rfl⟩
  go_wp2
  go_ret
  exact ⟨rfl, hf⟩
theorem ex_bytes : tx (enc1L 1 []) = ⟨#[0, 0, 0, 1, 0, 0]⟩ := by decide +kernel
theorem ex_encode (w : World) : Calls Tryz.prog 86 #[.agg #[.int .u32 1, .slice none 0 0]] w fun e w' => e = .returned (.tuple #[.string ⟨#[0, 0, 0, 1, 0, 0]⟩, .int .i64 0]) ∧ Fresh w w' := by
  have := encode_ok 1 none [] 0 w (.nil _ _) (by simp) rfl (by decide) (by decide)
  rw [ex_bytes] at this
  exact this
theorem awake17_any (w : World) : Calls Tryz.prog 42 #[] w fun e w' => e = .returned (.bool true) ∧ Fresh w w' := by
  have H1 := Lib.hid (fun W => ex_encode W)
  have H2 := Lib.hid (fun W => awake_true W)
  have H3 := Lib.hid (fun W => awake13_any W)
  go_enter Tryz.func42, Tryz.ntmps42
  go_wp2_with (fail)
  refine (H1.out _).mono ?_
  rintro e w1 ⟨rfl, hf⟩
  have HF := Lib.hid hf
  clear hf
  go_wp2_with (fail)
  refine (H2.out _).mono ?_
  rintro e w2 ⟨rfl, hf⟩
  have HF := Lib.hid (HF.out.trans hf)
  clear hf
  go_wp2_with (fail)
  refine (H3.out _).mono ?_
  rintro e w3 ⟨rfl, hf⟩
  have HF := Lib.hid (HF.out.trans hf)
  clear hf
  go_wp2
  go_ret
  exact ⟨rfl, HF.out⟩

/-! ### few pods, and short texts -/
end Go.Proofs.YtldncgelghcjeaaGreatDoor.K
namespace Go.Proofs.YtldncgelghcjeaaGreatDoor
open Go.ChangeShapes Go.WideShapes Go.ChangeAt Go.RowKit

theorem infoSP : (Tryz.prog.info? 129).map (fun i => (i.zero, i.size, i.bytes)) = some (some (.agg #[.int .i64 0, .int .i64 0]), 2, 16) := by kernel_rfl
theorem infoSE : (Tryz.prog.info? 130).map (fun i => (i.zero, i.size, i.bytes)) = some (some (.agg #[.string ⟨#[]⟩, .string ⟨#[]⟩]), 2, 32) := by kernel_rfl
theorem infoSC : (Tryz.prog.info? 126).map (fun i => (i.zero, i.size, i.bytes)) = some (some (.agg #[.string ⟨#[]⟩, .string ⟨#[]⟩, .slice none 0 0, .slice none 0 0, .int .i64 0, .int .i64 0, .slice none 0 0]), 7, 120) := by kernel_rfl
theorem own_shape {w : World} {B e k n : Nat} {v : Value} {xs : List Value} (h : w.ownsRow B e k v n xs) : ∃ o c, v = .slice o n c := by
  rcases h.2 with ⟨h1, h2⟩ | ⟨g, cap, c2, h1, _⟩
  · exact ⟨none, 0, by rw [h1, h2]⟩
  · exact ⟨_, _, h1⟩
theorem row_news {w : World} {ad : Addr} {cs : List Value} (h : RowAt w (some ad) cs) : ∀ j u, cs[j]? = some u → w.cell? (ad.add j) = some u := fun j u hj => by
  rcases h with rfl | ⟨g, o, e, h⟩
  · simp at hj
  · cases e
    rw [addr_add]
    exact h j u hj
theorem tcells_one (l : List ByteArray) : ∀ u ∈ tcells l, u.oneCell' = true := fun u hu => by
  obtain ⟨x, _, hx⟩ := List.mem_flatMap.1 hu
  rw [List.mem_singleton.1 hx]; rfl
theorem pcells_one (l : List (Int × Int)) : ∀ u ∈ pcells l, u.oneCell' = true := fun u hu => by
  obtain ⟨x, _, hx⟩ := List.mem_flatMap.1 hu
  simp only [pcell, List.mem_cons, List.not_mem_nil, or_false] at hx
  rcases hx with rfl | rfl <;> rfl
theorem ecells_one (l : List (ByteArray × ByteArray)) : ∀ u ∈ ecells l, u.oneCell' = true := fun u hu => by
  obtain ⟨x, _, hx⟩ := List.mem_flatMap.1 hu
  simp only [ecell, List.mem_cons, List.not_mem_nil, or_false] at hx
  rcases hx with rfl | rfl <;> rfl
theorem ccells_one (l : List CM) : ∀ u ∈ ccells l, u.oneCell' = true := fun u hu => by
  obtain ⟨x, _, hx⟩ := List.mem_flatMap.1 hu
  simp only [CM.cells, List.mem_cons, List.not_mem_nil, or_false] at hx
  rcases hx with rfl | rfl | rfl | rfl | rfl | rfl | rfl <;> rfl
set_option maxRecDepth 100000 in
set_option maxHeartbeats 1000000 in
theorem cloneT_any (l : List ByteArray) (a : Option Addr) (c : Nat) (w : World) (h : RowAt w a (tcells l)) (hl : l.length ≤ 1048576) :
    Calls Tryz.prog 143 #[.slice a l.length c] w fun e w' => ∃ a' c', e = .returned (.slice a' l.length c') ∧ w'.ownsRow w.heap.size 9 1 (.slice a' l.length c') l.length (tcells l) ∧ Fresh w w' := by
  have HL : Hid ((tcells l).length = l.length * 1) := by rw [Hid, Nat.mul_one]; exact tcells_len l
  have HO := Lib.hid (tcells_one l)
  obtain ⟨i0, hi, hz0, hz1, hz2⟩ := info_parts info9
  have qn : ∀ (w : World) (a : Option Addr) (n c n' c' : Nat), (binOp .eql 111 (.slice a n c) (.slice none n' c')).run Tryz.prog w = .ok (.bool a.isNone) w := fun w a n c n' c' => Lib.run_eql_slice_nil w _ _ a n c n' c' Tryz.underlying111
  cases a with
  | none =>
    have h0 : l = [] := by
      rcases h with h | ⟨g, o, e, _⟩
      · have := HL.out
        rw [h, List.length_nil] at this
        exact List.eq_nil_of_length_eq_zero (by omega)
      · cases e
    subst h0
    go_enter Tryz.func143, Tryz.ntmps143
    go_wp2
    go_ret
    exact ⟨none, 0, rfl, World.ownsRow_nil _ _ _ _, Fresh.refl _⟩
  | some ad =>
    have HNEWS := Lib.hid (row_news (h.move ((Fresh.refl w).alloc (.cells #[] 9))))
    clear h
    generalize tcells l = xs at *
    generalize l.length = n at *
    go_enter Tryz.func143, Tryz.ntmps143
    go_wp2_with (at_builtin; refine Hid.out ?_)
    refine Lib.hid ?_
    refine wpList_append_own _ rfl _ _ 111 rfl w.heap.size 9 i0 (.string ⟨#[]⟩) 1 16 Tryz.underlying111 hi hz0 hz1 hz2 rfl (by decide) _ 0 _ rfl (World.ownsRow_made w #[] 0 (Nat.le_refl _) (Nat.zero_le _) rfl) ad n c xs rfl HL.out HNEWS.out HO.out (by unfold maxLen; omega) (by omega) (by rw [World.size_alloc]; omega) ?_
    intro v' w3 hown' hgrow _
    have hown2 : w3.ownsRow w.heap.size 9 1 v' n xs := by
      have := hown'
      rwa [Nat.zero_add, List.nil_append] at this
    obtain ⟨o', c', rfl⟩ := own_shape hown2
    have HOWN := Lib.hid hown2
    have HGROW := Lib.hid hgrow
    clear hown' hown2 hgrow
    go_wp2
    go_ret
    exact ⟨o', c', rfl, HOWN.out, ((Fresh.refl w).alloc _).grown HGROW.out (fun g e => Nat.le_of_eq (Option.some.inj e))⟩
set_option maxRecDepth 100000 in
set_option maxHeartbeats 1000000 in
theorem cloneP_any (l : List (Int × Int)) (a : Option Addr) (c : Nat) (w : World) (h : RowAt w a (pcells l)) (hl : l.length ≤ 1048576) :
    Calls Tryz.prog 144 #[.slice a l.length c] w fun e w' => ∃ a' c', e = .returned (.slice a' l.length c') ∧ w'.ownsRow w.heap.size 129 2 (.slice a' l.length c') l.length (pcells l) ∧ Fresh w w' := by
  have HL : Hid ((pcells l).length = l.length * 2) := pcells_len l
  have HO := Lib.hid (pcells_one l)
  obtain ⟨i0, hi, hz0, hz1, hz2⟩ := info_parts infoSP
  have qn : ∀ (w : World) (a : Option Addr) (n c n' c' : Nat), (binOp .eql 123 (.slice a n c) (.slice none n' c')).run Tryz.prog w = .ok (.bool a.isNone) w := fun w a n c n' c' => Lib.run_eql_slice_nil w _ _ a n c n' c' Tryz.underlying123
  cases a with
  | none =>
    have h0 : l = [] := by
      rcases h with h | ⟨g, o, e, _⟩
      · have := HL.out
        rw [h, List.length_nil] at this
        exact List.eq_nil_of_length_eq_zero (by omega)
      · cases e
    subst h0
    go_enter Tryz.func144, Tryz.ntmps144
    go_wp2
    go_ret
    exact ⟨none, 0, rfl, World.ownsRow_nil _ _ _ _, Fresh.refl _⟩
  | some ad =>
    have HNEWS := Lib.hid (row_news (h.move ((Fresh.refl w).alloc (.cells #[] 129))))
    clear h
    generalize pcells l = xs at *
    generalize l.length = n at *
    go_enter Tryz.func144, Tryz.ntmps144
    go_wp2_with (at_builtin; refine Hid.out ?_)
    refine Lib.hid ?_
    refine wpList_append_own _ rfl _ _ 123 rfl w.heap.size 129 i0 (.agg #[.int .i64 0, .int .i64 0]) 2 16 Tryz.underlying123 hi hz0 hz1 hz2 rfl (by decide) _ 0 _ rfl (World.ownsRow_made w #[] 0 (Nat.le_refl _) (Nat.zero_le _) rfl) ad n c xs rfl HL.out HNEWS.out HO.out (by unfold maxLen; omega) (by omega) (by rw [World.size_alloc]; omega) ?_
    intro v' w3 hown' hgrow _
    have hown2 : w3.ownsRow w.heap.size 129 2 v' n xs := by
      have := hown'
      rwa [Nat.zero_add, List.nil_append] at this
    obtain ⟨o', c', rfl⟩ := own_shape hown2
    have HOWN := Lib.hid hown2
    have HGROW := Lib.hid hgrow
    clear hown' hown2 hgrow
    go_wp2
    go_ret
    exact ⟨o', c', rfl, HOWN.out, ((Fresh.refl w).alloc _).grown HGROW.out (fun g e => Nat.le_of_eq (Option.some.inj e))⟩
set_option maxRecDepth 100000 in
set_option maxHeartbeats 1000000 in
theorem cloneE_any (l : List (ByteArray × ByteArray)) (a : Option Addr) (c : Nat) (w : World) (h : RowAt w a (ecells l)) (hl : l.length ≤ 1048576) :
    Calls Tryz.prog 145 #[.slice a l.length c] w fun e w' => ∃ a' c', e = .returned (.slice a' l.length c') ∧ w'.ownsRow w.heap.size 130 2 (.slice a' l.length c') l.length (ecells l) ∧ Fresh w w' := by
  have HL : Hid ((ecells l).length = l.length * 2) := ecells_len l
  have HO := Lib.hid (ecells_one l)
  obtain ⟨i0, hi, hz0, hz1, hz2⟩ := info_parts infoSE
  have qn : ∀ (w : World) (a : Option Addr) (n c n' c' : Nat), (binOp .eql 124 (.slice a n c) (.slice none n' c')).run Tryz.prog w = .ok (.bool a.isNone) w := fun w a n c n' c' => Lib.run_eql_slice_nil w _ _ a n c n' c' Tryz.underlying124
  cases a with
  | none =>
    have h0 : l = [] := by
      rcases h with h | ⟨g, o, e, _⟩
      · have := HL.out
        rw [h, List.length_nil] at this
        exact List.eq_nil_of_length_eq_zero (by omega)
      · cases e
    subst h0
    go_enter Tryz.func145, Tryz.ntmps145
    go_wp2
    go_ret
    exact ⟨none, 0, rfl, World.ownsRow_nil _ _ _ _, Fresh.refl _⟩
  | some ad =>
    have HNEWS := Lib.hid (row_news (h.move ((Fresh.refl w).alloc (.cells #[] 130))))
    clear h
    generalize ecells l = xs at *
    generalize l.length = n at *
    go_enter Tryz.func145, Tryz.ntmps145
    go_wp2_with (at_builtin; refine Hid.out ?_)
    refine Lib.hid ?_
    refine wpList_append_own _ rfl _ _ 124 rfl w.heap.size 130 i0 (.agg #[.string ⟨#[]⟩, .string ⟨#[]⟩]) 2 32 Tryz.underlying124 hi hz0 hz1 hz2 rfl (by decide) _ 0 _ rfl (World.ownsRow_made w #[] 0 (Nat.le_refl _) (Nat.zero_le _) rfl) ad n c xs rfl HL.out HNEWS.out HO.out (by unfold maxLen; omega) (by omega) (by rw [World.size_alloc]; omega) ?_
    intro v' w3 hown' hgrow _
    have hown2 : w3.ownsRow w.heap.size 130 2 v' n xs := by
      have := hown'
      rwa [Nat.zero_add, List.nil_append] at this
    obtain ⟨o', c', rfl⟩ := own_shape hown2
    have HOWN := Lib.hid hown2
    have HGROW := Lib.hid hgrow
    clear hown' hown2 hgrow
    go_wp2
    go_ret
    exact ⟨o', c', rfl, HOWN.out, ((Fresh.refl w).alloc _).grown HGROW.out (fun g e => Nat.le_of_eq (Option.some.inj e))⟩
set_option maxRecDepth 100000 in
set_option maxHeartbeats 1000000 in
theorem cloneC_any (l : List CM) (a : Option Addr) (c : Nat) (w : World) (h : RowAt w a (ccells l)) (hl : l.length ≤ 1048576) :
    Calls Tryz.prog 117 #[.slice a l.length c] w fun e w' => ∃ a' c', e = .returned (.slice a' l.length c') ∧ w'.ownsRow w.heap.size 126 7 (.slice a' l.length c') l.length (ccells l) ∧ Fresh w w' := by
  have HL : Hid ((ccells l).length = l.length * 7) := ccells_len l
  have HO := Lib.hid (ccells_one l)
  obtain ⟨i0, hi, hz0, hz1, hz2⟩ := info_parts infoSC
  have qn : ∀ (w : World) (a : Option Addr) (n c n' c' : Nat), (binOp .eql 39 (.slice a n c) (.slice none n' c')).run Tryz.prog w = .ok (.bool a.isNone) w := fun w a n c n' c' => Lib.run_eql_slice_nil w _ _ a n c n' c' Tryz.underlying39
  cases a with
  | none =>
    have h0 : l = [] := by
      rcases h with h | ⟨g, o, e, _⟩
      · have := HL.out
        rw [h, List.length_nil] at this
        exact List.eq_nil_of_length_eq_zero (by omega)
      · cases e
    subst h0
    go_enter Tryz.func117, Tryz.ntmps117
    go_wp2
    go_ret
    exact ⟨none, 0, rfl, World.ownsRow_nil _ _ _ _, Fresh.refl _⟩
  | some ad =>
    have HNEWS := Lib.hid (row_news (h.move ((Fresh.refl w).alloc (.cells #[] 126))))
    clear h
    generalize ccells l = xs at *
    generalize l.length = n at *
    go_enter Tryz.func117, Tryz.ntmps117
    go_wp2_with (at_builtin; refine Hid.out ?_)
    refine Lib.hid ?_
    refine wpList_append_own _ rfl _ _ 39 rfl w.heap.size 126 i0 (.agg #[.string ⟨#[]⟩, .string ⟨#[]⟩, .slice none 0 0, .slice none 0 0, .int .i64 0, .int .i64 0, .slice none 0 0]) 7 120 Tryz.underlying39 hi hz0 hz1 hz2 rfl (by decide) _ 0 _ rfl (World.ownsRow_made w #[] 0 (Nat.le_refl _) (Nat.zero_le _) rfl) ad n c xs rfl HL.out HNEWS.out HO.out (by unfold maxLen; omega) (by omega) (by rw [World.size_alloc]; omega) ?_
    intro v' w3 hown' hgrow _
    have hown2 : w3.ownsRow w.heap.size 126 7 v' n xs := by
      have := hown'
      rwa [Nat.zero_add, List.nil_append] at this
    obtain ⟨o', c', rfl⟩ := own_shape hown2
    have HOWN := Lib.hid hown2
    have HGROW := Lib.hid hgrow
    clear hown' hown2 hgrow
    go_wp2
    go_ret
    exact ⟨o', c', rfl, HOWN.out, ((Fresh.refl w).alloc _).grown HGROW.out (fun g e => Nat.le_of_eq (Option.some.inj e))⟩
end Go.Proofs.YtldncgelghcjeaaGreatDoor
namespace Go.Proofs.YtldncgelghcjeaaGreatDoor
open Go.ChangeShapes Go.WideShapes Go.ChangeAt Go.RowKit
theorem size5 : (Tryz.prog.info? 5).map (·.size) = some 1 := by kernel_rfl
theorem cells5 : Tryz.prog.cellsOf 5 = 1 := by kernel_rfl
/-- The row behind the copy holds just the bytes of s. -/
theorem copied (s : ByteArray) (M : Array Value) (hM : M.size = s.size) : (M.toList.take 0 ++ Lib.byteCells s.data.toList ++ M.toList.drop (0 + s.size)).toArray = (Lib.byteCells s.data.toList).toArray := by
  rw [List.take_zero, List.nil_append, List.drop_of_length_le (by rw [Array.length_toList]; omega), List.append_nil]
set_option maxRecDepth 100000 in
theorem slite_clone (s : ByteArray) (w : World) (hs : s.size ≤ 281474976710656) :
    Calls Tryz.prog 136 #[.string s] w fun e w' => e = .returned (.string s) ∧ Fresh w w' := by
  by_cases h0 : s.size = 0
  · obtain rfl : s = ⟨#[]⟩ := ByteArray.ext (Array.eq_empty_of_size_eq_zero h0)
    clear h0
    go_enter Tryz.func136, Tryz.ntmps136
    go_wp2
    go_ret
    exact ⟨rfl, Fresh.refl _⟩
  · have hmk := fun W => run_make_row' (P := Tryz.prog) 98 5 (.int .u8 0) 1 Tryz.underlying98 info5 rfl .i64 .i64 s.size (by omega) (by omega) W
    have hMs : (madeCells #[Value.int .u8 0] s.size).size = s.size := by rw [size_madeCells]
    generalize madeCells #[Value.int .u8 0] s.size = M at hmk hMs
    have hcp := Lib.run_copy_row_string (P := Tryz.prog) (w.alloc (.cells M 5)) 98 9 3 5 w.heap.size 0 s.size s.size s M 5 Tryz.underlying98 size5 (heap_alloc_new w _) (Nat.le_refl _) (by omega)
    rw [copied s M hMs] at hcp
    obtain ⟨Y, hY⟩ : ∃ Y, Y = (Lib.byteCells s.data.toList).toArray := ⟨_, rfl⟩
    rw [← hY] at hcp
    have hYs : Y.size = s.size := by rw [hY, List.size_toArray, Lib.byteCells_length, ← Lib.size_eq]
    have hgY : ((w.alloc (.cells M 5)).setRow w.heap.size Y).heap[w.heap.size]? = some (.cells Y 5 (0, 0)) := setRow_heap _ _ M _ 5 (0, 0) (heap_alloc_new w _)
    have hus := Lib.run_unsafeString_row (P := Tryz.prog) ((w.alloc (.cells M 5)).setRow w.heap.size Y) 182 3 9 5 Tryz.underlying182 cells5 w.heap.size Y.size (by unfold World.shape?; rw [hgY]) s.data.toList
      (fun e => h0 (by rw [Lib.size_eq, e]; rfl)) (by rw [← Lib.size_eq]; omega) (by rw [← Lib.size_eq]; omega)
      (fun j x hx => Lib.cells_of_row hgY Y.size j _ (by rw [List.take_of_length_le (by rw [Array.length_toList]; exact Nat.le_refl _), hY]; simp [Lib.byteCells, hx]))
    rw [← Lib.size_eq] at hus
    clear hY hgY
    go_enter Tryz.func136, Tryz.ntmps136
    go_wp2
    go_ret
    have hb2 : Below w.heap.size (w.alloc (.cells M 5)) ((w.alloc (.cells M 5)).setRow w.heap.size Y) := ⟨rfl, rfl, rfl, by simp, fun k hk => setRow_other _ _ _ _ (by omega)⟩
    exact ⟨rfl, Lib.below_freeze (((Below.refl _ w).alloc (Nat.le_refl _) _).trans hb2) (p := ⟨w.heap.size, 0, none⟩) (Nat.le_refl _) _⟩
set_option maxRecDepth 100000 in
theorem clone_any (s : ByteArray) (w : World) (hs : s.size ≤ 281474976710656) :
    Calls Tryz.prog 99 #[.string s] w fun e w' => e = .returned (.string s) ∧ Fresh w w' := by
  go_enter Tryz.func99, Tryz.ntmps99
  go_wp2_with fail
  refine (slite_clone _ _ hs).mono ?_
  rintro e w' ⟨rfl, hg⟩
  go_wp2
  go_ret
  exact ⟨rfl, hg⟩
end Go.Proofs.YtldncgelghcjeaaGreatDoor
namespace Go.Proofs.YtldncgelghcjeaaGreatDoor
open Go.ChangeShapes Go.WideShapes Go.ChangeAt Go.RowKit
attribute [local go_sem ↓] Go.wp_at_zero Go.wp_at_succ

/-- A container whose rows the call owns, from block B on. -/
structure QIn (W : World) (B : Nat) (m : CM) : Prop where
  cmd : W.ownsRow B 9 1 (.slice m.ca m.c.cmd.length m.cc) m.c.cmd.length (tcells m.c.cmd)
  ports : W.ownsRow B 129 2 (.slice m.pa m.c.ports.length m.pc) m.c.ports.length (pcells m.c.ports)
  env : W.ownsRow B 130 2 (.slice m.ea m.c.env.length m.ec) m.c.env.length (ecells m.c.env)
theorem own_fresh' {W W' : World} {B e k n : Nat} {v : Value} {xs : List Value} (h : W.ownsRow B e k v n xs) (f : Fresh W W') : W'.ownsRow B e k v n xs := by
  refine World.ownsRow.kept (row := none) h (f.grownBy' none) ?_
  rcases h' : v.ownBlock with _ | g
  · exact .inl rfl
  · exact .inr (by simp)
theorem own_set' {W : World} {B e k n : Nat} {v : Value} {xs : List Value} (h : W.ownsRow B e k v n xs) {p : Addr} (hp : p.block < B) (u : Value) : (W.setCell ⟨p.block, p.off, none⟩ u).ownsRow B e k v n xs := by
  refine World.ownsRow.kept h (grown_set W p.block p.off u) ?_
  rcases h' : v.ownBlock with _ | g
  · exact .inl rfl
  · refine .inr fun e2 => ?_
    have := (World.ownsRow.lt h g h').1
    have e3 : g = p.block := by simpa using e2
    omega
theorem set_same {α : Type} {l : List α} {j : Nat} {x : α} (h : l[j]? = some x) : l.set j x = l := by
  apply List.ext_getElem?
  intro i
  rw [List.getElem?_set]
  split
  · rename_i e
    subst e
    rw [h]
    split
    · rfl
    · rename_i h2
      have := (List.getElem?_eq_some_iff.1 h).1
      omega
  · rfl
theorem at_off' {W : World} {b : Nat} {o : Obj} (h : W.heap[b]? = some o) {g i : Nat} (hne : b ≠ g) (v : Value) : (W.setCell ⟨g, i, none⟩ v).heap[b]? = some o := by
  rw [(grown_set W g i v).block b (lt_of_at h) (fun e => hne (by cases e; rfl))]; exact h
/-- An owned row is nil and empty, or begins at the head of a block. -/
theorem own_form {w : World} {B e k n c : Nat} {o : Option Addr} {xs : List Value} (h : w.ownsRow B e k (.slice o n c) n xs) {i : Nat} (hi : i < n) : ∃ g, o = some ⟨g, 0, none⟩ ∧ B ≤ g ∧ n ≤ c := by
  rcases h.2 with ⟨e1, hn⟩ | ⟨g, cap, cur, e1, hb, _, hn, _⟩
  · omega
  · cases e1; exact ⟨g, rfl, hb, hn⟩
abbrev zero7 : Obj := .cells #[.string ⟨#[]⟩, .string ⟨#[]⟩, .slice none 0 0, .slice none 0 0, .int .i64 0, .int .i64 0, .slice none 0 0] 126
/-- What stands between the steps: both boxes. -/
structure WDS (w W : World) (b : Nat) (s0 s1 : ByteArray) (v2 v3 : Value) (n4 n5 : Int) (v6 : Value) : Prop where
  at1 : W.heap[b]? = some (.cells #[.string s0, .string s1, v2, v3, .int .i64 n4, .int .i64 n5, v6] 126)
  at2 : W.heap[b + 1]? = some zero7
  fr : Fresh w W
  sz : b + 2 ≤ W.heap.size
  bw : w.heap.size = b
section
variable {w W W' : World} {b : Nat} {s0 s1 : ByteArray} {v2 v3 : Value} {n4 n5 : Int} {v6 : Value}
theorem WDS.start : WDS w ((w.alloc (.cells #[.string s0, .string s1, v2, v3, .int .i64 n4, .int .i64 n5, v6] 126)).alloc zero7) w.heap.size s0 s1 v2 v3 n4 n5 v6 where
  at1 := at_alloc (at_new _ _)
  at2 := by have := at_new (w.alloc (.cells #[.string s0, .string s1, v2, v3, .int .i64 n4, .int .i64 n5, v6] 126)) zero7; rw [World.size_alloc] at this; exact this
  fr := ((Fresh.refl w).alloc _).alloc _
  sz := by simp
  bw := rfl
theorem WDS.go (h : WDS w W b s0 s1 v2 v3 n4 n5 v6) (f : Fresh W W') : WDS w W' b s0 s1 v2 v3 n4 n5 v6 :=
  ⟨f.at h.at1, f.at h.at2, h.fr.trans f, Nat.le_trans h.sz f.size, h.bw⟩
theorem WDS.off (h : WDS w W b s0 s1 v2 v3 n4 n5 v6) {g i : Nat} (hg : b + 2 ≤ g) (u : Value) : WDS w (W.setCell ⟨g, i, none⟩ u) b s0 s1 v2 v3 n4 n5 v6 :=
  ⟨at_off' h.at1 (by omega) u, at_off' h.at2 (by omega) u, h.fr.setCell (p := ⟨g, i, none⟩) (by have := h.bw; show w.heap.size ≤ g; omega) u, by simpa using h.sz, h.bw⟩
theorem WDS.set0 (h : WDS w W b s0 s1 v2 v3 n4 n5 v6) (s : ByteArray) : WDS w (W.setCell ⟨b, 0, none⟩ (.string s)) b s s1 v2 v3 n4 n5 v6 :=
  ⟨at_set h.at1 0 _, at_off' h.at2 (by omega) _, h.fr.setCell (p := ⟨b, 0, none⟩) (by have := h.bw; show w.heap.size ≤ b; omega) _, by simpa using h.sz, h.bw⟩
theorem WDS.set1 (h : WDS w W b s0 s1 v2 v3 n4 n5 v6) (s : ByteArray) : WDS w (W.setCell ⟨b, 1, none⟩ (.string s)) b s0 s v2 v3 n4 n5 v6 :=
  ⟨at_set h.at1 1 _, at_off' h.at2 (by omega) _, h.fr.setCell (p := ⟨b, 1, none⟩) (by have := h.bw; show w.heap.size ≤ b; omega) _, by simpa using h.sz, h.bw⟩
theorem WDS.set2 (h : WDS w W b s0 s1 v2 v3 n4 n5 v6) (u : Value) : WDS w (W.setCell ⟨b, 2, none⟩ u) b s0 s1 u v3 n4 n5 v6 :=
  ⟨at_set h.at1 2 _, at_off' h.at2 (by omega) _, h.fr.setCell (p := ⟨b, 2, none⟩) (by have := h.bw; show w.heap.size ≤ b; omega) _, by simpa using h.sz, h.bw⟩
theorem WDS.set3 (h : WDS w W b s0 s1 v2 v3 n4 n5 v6) (u : Value) : WDS w (W.setCell ⟨b, 3, none⟩ u) b s0 s1 v2 u n4 n5 v6 :=
  ⟨at_set h.at1 3 _, at_off' h.at2 (by omega) _, h.fr.setCell (p := ⟨b, 3, none⟩) (by have := h.bw; show w.heap.size ≤ b; omega) _, by simpa using h.sz, h.bw⟩
theorem WDS.set4 (h : WDS w W b s0 s1 v2 v3 n4 n5 v6) (n : Int) : WDS w (W.setCell ⟨b, 4, none⟩ (.int .i64 n)) b s0 s1 v2 v3 n n5 v6 :=
  ⟨at_set h.at1 4 _, at_off' h.at2 (by omega) _, h.fr.setCell (p := ⟨b, 4, none⟩) (by have := h.bw; show w.heap.size ≤ b; omega) _, by simpa using h.sz, h.bw⟩
theorem WDS.set5 (h : WDS w W b s0 s1 v2 v3 n4 n5 v6) (n : Int) : WDS w (W.setCell ⟨b, 5, none⟩ (.int .i64 n)) b s0 s1 v2 v3 n4 n v6 :=
  ⟨at_set h.at1 5 _, at_off' h.at2 (by omega) _, h.fr.setCell (p := ⟨b, 5, none⟩) (by have := h.bw; show w.heap.size ≤ b; omega) _, by simpa using h.sz, h.bw⟩
theorem WDS.set6 (h : WDS w W b s0 s1 v2 v3 n4 n5 v6) (u : Value) : WDS w (W.setCell ⟨b, 6, none⟩ u) b s0 s1 v2 v3 n4 n5 u :=
  ⟨at_set h.at1 6 _, at_off' h.at2 (by omega) _, h.fr.setCell (p := ⟨b, 6, none⟩) (by have := h.bw; show w.heap.size ≤ b; omega) _, by simpa using h.sz, h.bw⟩
theorem WDS.cells (h : WDS w W b s0 s1 v2 v3 n4 n5 v6) :
    (W.cell? ⟨b, 0, none⟩ = some (.string s0) ∧ W.cell? ⟨b, 1, none⟩ = some (.string s1) ∧ W.cell? ⟨b, 2, none⟩ = some v2 ∧ W.cell? ⟨b, 3, none⟩ = some v3 ∧ W.cell? ⟨b, 4, none⟩ = some (.int .i64 n4) ∧ W.cell? ⟨b, 5, none⟩ = some (.int .i64 n5) ∧ W.cell? ⟨b, 6, none⟩ = some v6) ∧ ∀ i, W.frozen? ⟨b, i, none⟩ = false :=
  Box7.cells (show Box7 126 W b s0 s1 v2 v3 n4 n5 v6 from h.at1)
end
end Go.Proofs.YtldncgelghcjeaaGreatDoor
