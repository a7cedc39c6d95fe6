/-
  What is wrong with ports.
-/
import Derived.Test.YtfhhmajkacjbgaaDoorSFun
import Derived.Deep.QuietTactic
import Derived.BigQuiet
import Derived.RegionTactic
import Derived.Deep.RegionHeld3
namespace Go.Proofs.YtfhhmajkacjbgaaDoor
open Go.ChangeShapes Go.WideShapes Go.ChangeAt Go.RowKit
attribute [local go_sem ↓] Go.wp_at_zero Go.wp_at_succ

theorem memP_take {l : List (Int × Int)} {x : Int × Int} {j : Nat} (h : j < l.length) (hm : memP x (l.take j) = false) : memP x (l.take (j + 1)) = decide (l[j] = x) := by
  rw [List.take_succ_eq_append_getElem h]
  unfold memP at hm ⊢
  rw [List.any_append, hm]
  simp
theorem memP_yes {l : List (Int × Int)} {x : Int × Int} {j : Nat} (h : j < l.length) (e : l[j] = x) : memP x l = true := by
  rw [memP, List.any_eq_true]
  exact ⟨l[j], List.getElem_mem h, by rw [e]; simp⟩
set_option maxRecDepth 100000 in
set_option maxHeartbeats 1000000 in
theorem indexP_any (l : List (Int × Int)) (u v : Int) (a : Option Addr) (c : Nat) (w : World) (h : RowAt w a (pcells l)) (hl : l.length ≤ 1000000) :
    Calls Tryd.prog 89 #[.slice a l.length c, .agg #[.int .i64 u, .int .i64 v]] w fun e w' => ∃ z : Int, e = .returned (.int .i64 z) ∧ decide (0 ≤ z) = memP (u, v) l ∧ Fresh w w' := by
  have HR := Lib.hid h
  have HB := Lib.hid (at_new w (.cells #[.int .i64 u, .int .i64 v] 55))
  have HF0 := Lib.hid ((Fresh.refl w).alloc (.cells #[.int .i64 u, .int .i64 v] 55))
  clear h
  go_enter Tryd.func89, Tryd.ntmps89
  go_wp2
  generalize w.alloc (.cells #[.int .i64 u, .int .i64 v] 55) = W0 at *
  go_loopw [8] (fun a8 wr => ∃ (k : Nat), a8 = .int .i64 (k : Int) ∧ k ≤ l.length ∧ Hid (memP (u, v) (l.take k) = false) ∧ Hid (Fresh W0 wr)) (fun a8 _ => l.length - (intOf a8).toNat)
  case atStart => exact ⟨0, rfl, Nat.zero_le _, rfl, Fresh.refl _⟩
  case round =>
    obtain ⟨k, rfl, hk, HE, HF⟩ := hrel
    have h9 := HF.out.at HB.out
    have r0 := cell_of_at h9 (i := 0) (v := .int .i64 u) rfl
    have r1 := cell_of_at h9 (i := 1) (v := .int .i64 v) rfl
    clear h9
    by_cases hlt : k < l.length
    · obtain ⟨g, o1, rfl, hc⟩ := prow_form ((HR.out.move HF0.out).move HF.out) hlt
      obtain ⟨c0, c1⟩ := hc k hlt
      have HSN := Lib.hid (memP_take hlt HE.out)
      have HYE := Lib.hid (@memP_yes l (u, v) k hlt)
      clear hc
      obtain ⟨y, hy⟩ : ∃ y, y = l[k] := ⟨_, rfl⟩
      rw [← hy] at c0 c1 HSN HYE
      clear hy
      obtain ⟨yn, yp⟩ := y
      dsimp only at c0 c1
      by_cases h1 : u = yn
      · by_cases h2 : v = yp
        · subst h1 h2
          have HM := Lib.hid (HYE.out rfl)
          clear HYE HSN
          go_wp2_with (fail)
          go_quiet (fail)
          go_wp2
          all_goals try (exfalso; omega)
          go_ret
          exact ⟨_, rfl, by rw [HM.out]; exact decide_eq_true (by omega), (HF0.out.trans HF.out).trans (fresh_drewN _ _)⟩
        · have HN : Hid (memP (u, v) (l.take (k + 1)) = false) := by
            rw [Hid, HSN.out, decide_eq_false_iff_not]
            intro e
            cases e
            exact h2 rfl
          subst h1
          have e1 : (v == yp) = false := by rw [beq_eq_false_iff_ne]; exact h2
          clear HYE HSN
          go_wp2_with (fail)
          go_quiet (fail)
          go_wp2
          all_goals try (exfalso; omega)
          go_roundw
          case rel => exact ⟨k + 1, by simp, by omega, HN.out, HF.out.trans (fresh_drewN _ _)⟩
          case measure => simp [intOf]; omega
      · have HN : Hid (memP (u, v) (l.take (k + 1)) = false) := by
          rw [Hid, HSN.out, decide_eq_false_iff_not]
          intro e
          cases e
          exact h1 rfl
        have e1 : (u == yn) = false := by rw [beq_eq_false_iff_ne]; exact h1
        clear HYE HSN
        go_wp2_with (fail)
        go_quiet (fail)
        go_wp2
        all_goals try (exfalso; omega)
        go_roundw
        case rel => exact ⟨k + 1, by simp, by omega, HN.out, HF.out.trans (fresh_drewN _ _)⟩
        case measure => simp [intOf]; omega
    · obtain rfl : k = l.length := by omega
      have HM : Hid (memP (u, v) l = false) := by have := HE.out; rwa [List.take_length] at this
      go_wp2
      all_goals try (exfalso; omega)
      go_ret
      exact ⟨_, rfl, by rw [HM.out]; decide, HF0.out.trans HF.out⟩
set_option maxRecDepth 100000 in
theorem containsP_any (l : List (Int × Int)) (u v : Int) (a : Option Addr) (c : Nat) (w : World) (h : RowAt w a (pcells l)) (hl : l.length ≤ 1000000) :
    Calls Tryd.prog 79 #[.slice a l.length c, .agg #[.int .i64 u, .int .i64 v]] w fun e w' => e = .returned (.bool (memP (u, v) l)) ∧ Fresh w w' := by
  have HF0 := Lib.hid ((Fresh.refl w).alloc (.cells #[.int .i64 u, .int .i64 v] 55))
  have HI := Lib.hid (indexP_any l u v a c _ (h.move HF0.out) hl)
  clear h
  generalize memP (u, v) l = r at *
  go_enter Tryd.func79, Tryd.ntmps79
  go_wp2_with (fail)
  refine HI.out.mono ?_
  rintro e w1 ⟨z, rfl, hz, hf⟩
  have HZ := Lib.hid hz
  clear hz
  go_wp2
  all_goals try (exfalso; omega)
  go_ret
  exact ⟨ret_bool HZ.out, HF0.out.trans hf⟩
theorem prow_take {w : World} {a : Option Addr} {l : List (Int × Int)} (h : RowAt w a (pcells l)) (k : Nat) : RowAt w a (pcells (l.take k)) := by
  by_cases h0 : l = []
  · subst h0; simpa using h
  · have hne : pcells l ≠ [] := pcells_ne (i := 0) (List.length_pos_iff.2 h0)
    obtain ⟨g, o, e, hc⟩ := h.form hne
    refine .inr ⟨g, o, e, fun j x hj => hc j x ?_⟩
    have hs : pcells l = pcells (l.take k) ++ pcells (l.drop k) := by
      unfold pcells
      rw [← List.flatMap_append, List.take_append_drop]
    rw [hs, List.getElem?_append_left (List.getElem?_eq_some_iff.1 hj).1]
    exact hj
set_option maxRecDepth 100000 in
set_option maxHeartbeats 2000000 in
theorem portsFault_any (l : List (Int × Int)) (a : Option Addr) (c : Nat) (w : World) (h : RowAt w a (pcells l)) (hl : l.length ≤ 1000000) (hcap : l.length ≤ c) :
    Calls Tryd.prog 53 #[.slice a l.length c] w fun e w' => e = .returned (.int .i64 (portsE [] l)) ∧ Fresh w w' := by
  have HR := Lib.hid h
  clear h
  have HW := Lib.hid (fun (n m : Int) W => within_any n m W)
  have HK := Lib.hid (fun (n : Int) W => knownP_any n W)
  go_enter Tryd.func53, Tryd.ntmps53
  go_wp2
  go_loopw [7] (fun a7 wr => ∃ (k : Nat), a7 = .int .i64 (k : Int) ∧ k ≤ l.length ∧ Hid (portsE [] l = portsE (l.take k) (l.drop k)) ∧ Hid (Fresh w wr)) (fun a7 _ => l.length - (intOf a7).toNat)
  case atStart => exact ⟨0, rfl, Nat.zero_le _, rfl, Fresh.refl _⟩
  case round =>
    obtain ⟨k, rfl, hk, HE, HF⟩ := hrel
    by_cases hlt : k < l.length
    · obtain ⟨g, o1, rfl, hc⟩ := prow_form (HR.out.move HF.out) hlt
      obtain ⟨c0, c1⟩ := hc k hlt
      have HST : Hid (portsE [] l = if portBad l[k] = true then 7 else if memP l[k] (l.take k) = true then 8 else portsE (l.take (k + 1)) (l.drop (k + 1))) := by
        rw [Hid, HE.out, List.drop_eq_getElem_cons hlt, portsE, List.take_succ_eq_append_getElem hlt]
      have HTL : Hid ((l.take k).length = k) := by rw [Hid, List.length_take]; omega
      have HC : Hid (∀ (x y : Int) W, Fresh wr W → Calls Tryd.prog 79 #[.slice (some ⟨g, o1, none⟩) k c, .agg #[.int .i64 x, .int .i64 y]] W fun e w' => e = .returned (.bool (memP (x, y) (l.take k))) ∧ Fresh W w') := fun x y W f => by
        have := containsP_any (l.take k) x y (some ⟨g, o1, none⟩) c W (prow_take ((HR.out.move HF.out).move f) k) (by have := HTL.out; omega)
        rw [HTL.out] at this
        exact this
      clear hc
      obtain ⟨y, hy⟩ : ∃ y, y = l[k] := ⟨_, rfl⟩
      rw [← hy] at c0 c1 HST
      clear hy
      obtain ⟨pn, pp⟩ := y
      dsimp only at c0 c1
      have HC2 := Lib.hid (HC.out pn pp)
      clear HC
      cases hbad : portBad (pn, pp) with
      | true =>
        have HR2 : Hid (portsE [] l = 7) := by rw [Hid, HST.out, if_pos hbad]
        have hd : pn < 1 ∨ 65535 < pn ∨ pp < 0 ∨ 1 < pp := by
          unfold portBad at hbad
          simp only [Bool.or_eq_true, decide_eq_true_eq] at hbad
          exact hbad
        clear hbad HST HC2
        have HW1 := Lib.hid (fun W => HW.out pn 65535 W)
        have HK1 := Lib.hid (fun W => HK.out pp W)
        by_cases hw : 1 ≤ pn ∧ pn ≤ 65535
        · rw [decide_eq_true hw.1, decide_eq_true hw.2] at HW1
          have hk2 : (decide (0 ≤ pp) && decide (pp < 2)) = false := by
            rw [Bool.eq_false_iff]; intro e
            simp only [Bool.and_eq_true, decide_eq_true_eq] at e
            omega
          rw [hk2] at HK1
          clear hw hk2
          go_wp2_with (first | (go_at_call 30; refine (HW1.out _).mono ?_; rintro e w' ⟨rfl, rfl⟩) | (go_at_call 42; refine (HK1.out _).mono ?_; rintro e w' ⟨rfl, rfl⟩))
          all_goals try (exfalso; omega)
          go_ret
          exact ⟨ret_int HR2.out.symm, HF.out.alloc _⟩
        · have hw2 : (decide (1 ≤ pn) && decide (pn ≤ 65535)) = false := by
            rw [Bool.eq_false_iff]; intro e
            simp only [Bool.and_eq_true, decide_eq_true_eq] at e
            exact hw e
          rw [hw2] at HW1
          clear hw hw2 HK1
          go_wp2_with (first | (go_at_call 30; refine (HW1.out _).mono ?_; rintro e w' ⟨rfl, rfl⟩))
          all_goals try (exfalso; omega)
          go_ret
          exact ⟨ret_int HR2.out.symm, HF.out.alloc _⟩
      | false =>
        have hd : 1 ≤ pn ∧ pn ≤ 65535 ∧ 0 ≤ pp ∧ pp ≤ 1 := by
          unfold portBad at hbad
          simp only [Bool.or_eq_false_iff, decide_eq_false_iff_not] at hbad
          omega
        obtain ⟨z1, z2, z3, z4⟩ := hd
        have HW1 := Lib.hid (fun W => HW.out pn 65535 W)
        have HK1 := Lib.hid (fun W => HK.out pp W)
        rw [decide_eq_true z1, decide_eq_true z2] at HW1
        rw [decide_eq_true z3, decide_eq_true (show pp < 2 by omega)] at HK1
        have HST2 : Hid (portsE [] l = if memP (pn, pp) (l.take k) = true then 8 else portsE (l.take (k + 1)) (l.drop (k + 1))) := by rw [Hid, HST.out, if_neg (by rw [hbad]; decide)]
        clear hbad HST
        have i1 : (0 : Int) ≤ (k : Int) := by omega
        have i2 : (k : Int) ≤ (l.length : Int) := by omega
        have i3 : (k : Int) ≤ (c : Int) := by omega
        have i4 : (l.length : Int) ≤ (c : Int) := by omega
        have HB9 := Lib.hid (at_new wr (.cells #[.int .i64 pn, .int .i64 pp] 55))
        have HF1 := Lib.hid ((Fresh.refl wr).alloc (.cells #[.int .i64 pn, .int .i64 pp] 55))
        cases hm : memP (pn, pp) (l.take k) with
        | true =>
          have HR2 : Hid (portsE [] l = 8) := by rw [Hid, HST2.out, if_pos hm]
          rw [hm] at HC2
          clear hm HST2
          go_wp2_with (first | (go_at_call 30; refine (HW1.out _).mono ?_; rintro e w' ⟨rfl, rfl⟩) | (go_at_call 42; refine (HK1.out _).mono ?_; rintro e w' ⟨rfl, rfl⟩))
          all_goals try (exfalso; omega)
          generalize wr.alloc (.cells #[.int .i64 pn, .int .i64 pp] 55) = W1 at *
          have r0 := cell_of_at HB9.out (i := 0) (v := .int .i64 pn) rfl
          have r1 := cell_of_at HB9.out (i := 1) (v := .int .i64 pp) rfl
          go_region_with (go_at_call 79; refine (HC2.out _ HF1.out.drew).mono ?_; rintro e W2 ⟨rfl, hf⟩; have HF3 := Lib.hid (HF.out.trans (HF1.out.drew.trans hf)); clear hf)
          all_goals go_wp2
          all_goals try (exfalso; omega)
          all_goals go_ret
          all_goals exact ⟨ret_int HR2.out.symm, HF3.out⟩
        | false =>
          have HN2 : Hid (portsE [] l = portsE (l.take (k + 1)) (l.drop (k + 1))) := by rw [Hid, HST2.out, if_neg (by rw [hm]; decide)]
          rw [hm] at HC2
          clear hm HST2
          go_wp2_with (first | (go_at_call 30; refine (HW1.out _).mono ?_; rintro e w' ⟨rfl, rfl⟩) | (go_at_call 42; refine (HK1.out _).mono ?_; rintro e w' ⟨rfl, rfl⟩))
          all_goals try (exfalso; omega)
          generalize wr.alloc (.cells #[.int .i64 pn, .int .i64 pp] 55) = W1 at *
          have r0 := cell_of_at HB9.out (i := 0) (v := .int .i64 pn) rfl
          have r1 := cell_of_at HB9.out (i := 1) (v := .int .i64 pp) rfl
          go_region_with (go_at_call 79; refine (HC2.out _ HF1.out.drew).mono ?_; rintro e W2 ⟨rfl, hf⟩; have HF3 := Lib.hid (HF.out.trans (HF1.out.drew.trans hf)); clear hf)
          all_goals go_wp2
          all_goals try (exfalso; omega)
          all_goals go_roundw
          case rel => exact ⟨k + 1, by simp, by omega, HN2.out, HF3.out⟩
          case measure => simp [intOf]; omega
    · obtain rfl : k = l.length := by omega
      have HR2 : Hid (portsE [] l = 0) := by rw [Hid, HE.out, List.drop_length]; rfl
      go_wp2
      all_goals try (exfalso; omega)
      go_ret
      exact ⟨ret_int HR2.out.symm, HF.out⟩
end Go.Proofs.YtfhhmajkacjbgaaDoor
