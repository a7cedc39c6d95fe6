/-
  Parts of the proof: Whole YKey YLift YRFour YRChar YLenM Utf YRLen YSplit.
-/
import Derived.Test.YtcljplkkgpjhlaaGreatDoorRCat09
import Derived.Test.YtcljplkkgpjhlaaGreatDoorRCat07
import Derived.Test.YtcljplkkgpjhlaaGreatDoorRCat08
import Derived.Test.YtcljplkkgpjhlaaGreatDoorRCards
import Derived.Test.YtcljplkkgpjhlaaGreatDoorRTie
import Derived.Shelf.Vars
import Derived.Lib.LaidIn
import Derived.Lib.LaidU8T
import Derived.Deep.DeepHandedRow
import Derived.Deep.DeepWitnessRowRef
import Derived.SevenTiedAt
import Derived.Carry
import Derived.ChangeOld
import Derived.LaidLaws
import Derived.Stop.LaidErr
import Derived.Test.YtcljplkkgpjhlaaGreatDoorRCat02
import Derived.Lib.ValidLaws
import Derived.Lib.IndexMore
set_option maxRecDepth 100000
set_option maxHeartbeats 8000000
namespace Go.Proofs.YtcljplkkgpjhlaaGreatDoorR
section
open Go.ChangeShapes Go.WideShapes Go.ChangeAt Go.RowKit
attribute [local go_sem ↓] Go.wp_at_zero Go.wp_at_succ
variable {w : World}
def RangeVar (w : World) : Prop := ∃ tp p, w.var? Tryz.prog "strconv.ErrRange" = some #[.iface tp p]
theorem RangeVar.move {w w' : World} (h : RangeVar w) (f : Fresh w w') : RangeVar w' := by
  obtain ⟨tp, p, h⟩ := h
  refine ⟨tp, p, ?_⟩
  unfold World.var? at h ⊢
  cases hg : Tryz.prog.globalNamed "strconv.ErrRange" with
  | none => simp [hg] at h
  | some g =>
    simp only [hg, Option.bind_some] at h ⊢
    have hlt : g < w.heap.size := by
      rcases Nat.lt_or_ge g w.heap.size with h' | h'
      · exact h'
      · simp [Array.getElem?_eq_none h'] at h
    rw [f.block g hlt]
    exact h
theorem trim_any (s : ByteArray) (w : World) : Calls Tryz.prog 125 #[.string s, .string ⟨#[45]⟩] w fun e w' => e = .returned (.string (bs (behind s.data.toList))) ∧ w = w' := by
  refine (Any.strings_TrimPrefix Tryz.laysTrim s ⟨#[45]⟩ w).mono ?_
  rintro e w' ⟨h1, h2⟩
  exact ⟨h1, h2.symm⟩
theorem parse_yes (s : ByteArray) (w : World) (hs : s.size ≤ 9000000) (hd : digits (behind s.data.toList) = true) (hm : num (behind s.data.toList) ≤ most s.data.toList) :
    Calls Tryz.prog 126 #[.string s, .int .i64 10, .int .i64 64] w fun e w' => e = .returned (.tuple #[.int .i64 (wholeV s.data.toList), .nilIface]) ∧ Fresh w w' := by
  have hp := parse_digits _ hd
  have hw : wholeV s.data.toList = if minus s.data.toList = true then -(num (behind s.data.toList) : Int) else (num (behind s.data.toList) : Int) := by rw [wholeV, if_pos ⟨hd, hm⟩]
  rw [if_pos hm, ← hw] at hp
  clear hw
  generalize wholeV s.data.toList = v at *
  refine (Any.strconv_ParseInt_10_at64_ok Tryz.laysInt s (by omega) _ hp w).mono ?_
  rintro e w' ⟨h1, h2⟩
  refine ⟨h1, ?_⟩
  rcases h2 with rfl | ⟨t, rfl⟩
  · exact Fresh.refl _
  · exact Lib.bytesWorld_below ..
theorem parse_no (s : ByteArray) (w : World) (hs : s.size ≤ 9000000) (hr : RangeVar w) (hd : digits (behind s.data.toList) = true) (hm : ¬ num (behind s.data.toList) ≤ most s.data.toList) :
    Calls Tryz.prog 126 #[.string s, .int .i64 10, .int .i64 64] w fun e w' => (∃ x t p, e = .returned (.tuple #[.int .i64 x, .iface t (.pointer (some p))])) ∧ Fresh w w' := by
  have hp := parse_digits _ hd
  rw [if_neg hm] at hp
  obtain ⟨tp, p, hv⟩ := hr
  refine (Any.strconv_ParseInt_10_at64_range_var Tryz.laysInt s (by omega) hp tp p w hv).mono ?_
  rintro e w' ⟨N, h1, _, _, h2⟩
  exact ⟨⟨_, _, _, h1⟩, h2⟩
theorem whole_any (s : ByteArray) (w : World) (hs : s.size ≤ 9000000) (hr : RangeVar w) :
    Calls Tryz.prog 98 #[.string s] w fun e w' => e = .returned (.tuple #[.int .i64 (wholeV s.data.toList), .int .i64 (wholeE s.data.toList)]) ∧ Fresh w w' := by
  have HT := Lib.hid (fun W => trim_any s W)
  have HR := Lib.hid hr
  have HP1 := Lib.hid (fun W => parse_yes s W hs)
  have HP2 := Lib.hid (fun W => parse_no s W hs)
  have hbl : (behind s.data.toList).length ≤ 9000000 := by
    have h1 : (behind s.data.toList).length ≤ s.data.toList.length := by
      unfold behind Lib.trimPrefix
      split
      · simp
      · exact Nat.le_refl _
    have h2 : s.data.toList.length = s.size := by simp
    omega
  cases hd : digits (behind s.data.toList) with
  | true =>
    have HD : Hid (digits (behind s.data.toList) = true) := hd
    obtain ⟨d0, d1, d2⟩ := (digits_iff _).1 hd
    have hc := (cnt_all digB _).1 d1
    have HA := Lib.hid (fun W => ahead_digit (bs (behind s.data.toList)) W (by rw [bs_size]; exact hbl))
    rw [bs_toList, hc] at HA
    have HW : Hid (wholeE s.data.toList = if num (behind s.data.toList) ≤ most s.data.toList then 0 else 7) := by rw [Hid, wholeE, if_pos hd]
    have HV0 : Hid (¬ num (behind s.data.toList) ≤ most s.data.toList → wholeV s.data.toList = 0) := fun h => by rw [wholeV, if_neg (fun e => h e.2)]
    rcases hb : behind s.data.toList with _ | ⟨c, r⟩
    · exact absurd hb d0
    rw [hb] at HA HT d2
    have hsz := bs_size (c :: r)
    obtain ⟨p1, p2, _, p4⟩ := bs_cons c r
    by_cases h48 : c.toNat = 48
    · have hr0 : c :: r = [48] := by
        rcases d2 with d2 | d2
        · exact absurd (by rw [List.head?_cons, (UInt8.toNat_inj.1 h48 : c = 48)]) d2
        · exact d2
      have hm : num (behind s.data.toList) ≤ most s.data.toList := by
        have e0 : num (behind s.data.toList) = 0 := by rw [hb, hr0]; rfl
        omega
      have HX : Hid (wholeE s.data.toList = 0) := by rw [Hid, HW.out, if_pos hm]
      have HP := Lib.hid (fun W => HP1.out W HD.out hm)
      rw [hr0] at HT HA
      have e1 : bs [48] = ⟨#[48]⟩ := rfl
      rw [e1] at HT HA
      clear HP1 HP2 HW HV0 hm hr0 h48 hsz p1 p2 p4 d0 d1 d2 hb hd HD hc hbl e1
      generalize wholeV s.data.toList = v at *
      generalize wholeE s.data.toList = x at *
      go_enter Tryz.func98, Tryz.ntmps98
      go_wp2_with fail
      refine (HT.out _).mono ?_
      rintro e w' ⟨rfl, rfl⟩
      go_wp2_with fail
      refine (HA.out _).mono ?_
      rintro e w' ⟨rfl, rfl⟩
      go_wp2_with fail
      refine (HP.out _).mono ?_
      rintro e w1 ⟨rfl, hf1⟩
      have HF1 := Lib.hid hf1
      clear hf1
      go_wp2
      go_ret2
      exact ⟨by rw [HX.out]; rfl, HF1.out⟩
    · have e48 : ((c.toNat : Int) == 48) = false := by rw [beq_eq_false_iff_ne]; omega
      generalize bs (c :: r) = d at *
      have hlen : (c :: r).length = d.size := hsz.symm
      rw [hlen] at HA
      clear hsz hlen hbl hc d0 d1 d2 h48 hd
      by_cases hm : num (behind s.data.toList) ≤ most s.data.toList
      · have HX : Hid (wholeE s.data.toList = 0) := by rw [Hid, HW.out, if_pos hm]
        have HP := Lib.hid (fun W => HP1.out W HD.out hm)
        clear HP1 HP2 HW HV0 hm
        generalize wholeV s.data.toList = v at *
        generalize wholeE s.data.toList = x at *
        go_enter Tryz.func98, Tryz.ntmps98
        go_wp2_with fail
        refine (HT.out _).mono ?_
        rintro e w' ⟨rfl, rfl⟩
        go_wp2_with fail
        refine (HA.out _).mono ?_
        rintro e w' ⟨rfl, rfl⟩
        go_wp2_with fail
        refine (HP.out _).mono ?_
        rintro e w1 ⟨rfl, hf1⟩
        have HF1 := Lib.hid hf1
        clear hf1
        go_wp2
        go_ret2
        exact ⟨by rw [HX.out]; rfl, HF1.out⟩
      · have HX : Hid (wholeE s.data.toList = 7) := by rw [Hid, HW.out, if_neg hm]
        have HV := Lib.hid (HV0.out hm)
        have HP := Lib.hid (fun W h => HP2.out W h HD.out hm)
        clear HP1 HP2 HW HV0 hm
        generalize wholeV s.data.toList = v at *
        generalize wholeE s.data.toList = x at *
        go_enter Tryz.func98, Tryz.ntmps98
        go_wp2_with fail
        refine (HT.out _).mono ?_
        rintro e w' ⟨rfl, rfl⟩
        go_wp2_with fail
        refine (HA.out _).mono ?_
        rintro e w' ⟨rfl, rfl⟩
        go_wp2_with fail
        refine (HP.out _ HR.out).mono ?_
        rintro e w1 ⟨⟨y, t, p, rfl⟩, hf1⟩
        have HF1 := Lib.hid hf1
        clear hf1
        go_wp2
        go_ret2
        exact ⟨by rw [HX.out, HV.out]; rfl, HF1.out⟩
  | false =>
    have HX : Hid (wholeE s.data.toList = 12) := by rw [Hid, wholeE, if_neg (by rw [hd]; simp)]
    have HV : Hid (wholeV s.data.toList = 0) := by rw [Hid, wholeV, if_neg (by rw [hd]; simp)]
    have hn : ¬ (behind s.data.toList ≠ [] ∧ cnt digB (behind s.data.toList) = (behind s.data.toList).length ∧ ((behind s.data.toList).head? ≠ some 48 ∨ behind s.data.toList = [48])) := of_decide_eq_false hd
    have HA := Lib.hid (fun W => ahead_digit (bs (behind s.data.toList)) W (by rw [bs_size]; exact hbl))
    have hle := cnt_le digB (behind s.data.toList)
    rw [bs_toList] at HA
    clear hd HP1 HP2
    generalize behind s.data.toList = ds at *
    generalize wholeV s.data.toList = v at *
    generalize wholeE s.data.toList = x at *
    rcases ds with _ | ⟨c, r⟩
    · have e1 : bs [] = ⟨#[]⟩ := rfl
      rw [e1] at HT
      clear e1 hn hle hbl HA
      go_enter Tryz.func98, Tryz.ntmps98
      go_wp2_with fail
      refine (HT.out _).mono ?_
      rintro e w' ⟨rfl, rfl⟩
      go_wp2
      go_ret2
      exact ⟨by rw [HX.out, HV.out]; rfl, Fresh.refl _⟩
    · have hsz := bs_size (c :: r)
      obtain ⟨p1, p2, _, p4⟩ := bs_cons c r
      by_cases hc : cnt digB (c :: r) = (c :: r).length
      · have h48 : c = 48 ∧ r ≠ [] := by
          by_cases e : c = 48
          · refine ⟨e, ?_⟩
            rintro rfl
            subst e
            exact hn ⟨by simp, hc, .inr rfl⟩
          · exact absurd ⟨by simp, hc, .inl (by simpa using e)⟩ hn
        obtain ⟨rfl, hr⟩ := h48
        have q1 : ((bs (48 :: r)).toList == [48]) = false := by
          rw [Lib.toList_data, bs_toList]; simpa using hr
        have q2 : (bs (48 :: r)).toList ≠ [48] := by
          rw [Lib.toList_data, bs_toList]; simpa using hr
        rw [hc] at HA
        generalize bs (48 :: r) = d at *
        have hlen : ((48 : UInt8) :: r).length = d.size := hsz.symm
        rw [hlen] at HA
        clear hsz hlen hbl hc hn hle hr
        go_enter Tryz.func98, Tryz.ntmps98
        go_wp2_with fail
        refine (HT.out _).mono ?_
        rintro e w' ⟨rfl, rfl⟩
        go_wp2_with fail
        refine (HA.out _).mono ?_
        rintro e w' ⟨rfl, rfl⟩
        go_wp2
        go_ret2
        exact ⟨by rw [HX.out, HV.out]; rfl, Fresh.refl _⟩
      · have hlt : cnt digB (c :: r) < (bs (c :: r)).size := by rw [hsz]; omega
        generalize bs (c :: r) = d at *
        generalize cnt digB (c :: r) = n at *
        clear hsz hbl hn hle hc
        go_enter Tryz.func98, Tryz.ntmps98
        go_wp2_with fail
        refine (HT.out _).mono ?_
        rintro e w' ⟨rfl, rfl⟩
        go_wp2_with fail
        refine (HA.out _).mono ?_
        rintro e w' ⟨rfl, rfl⟩
        go_wp2
        go_ret2
        exact ⟨by rw [HX.out, HV.out]; rfl, Fresh.refl _⟩
end
namespace y
open Go.ChangeShapes Go.WideShapes Go.ChangeAt Go.RowKit
attribute [local go_sem ↓] Go.wp_at_zero Go.wp_at_succ
variable {w : World}
structure Env (w : World) : Prop where
  tabs : Tabs w
  rng : RangeVar w
  mx : ∃ m : Int, w.cell? ⟨Tryz.laysCut_ren.g 1, 0, none⟩ = some (.int .i64 m)
theorem Env.move {w w' : World} (h : Env w) (f : Fresh w w') : Env w' :=
  ⟨h.tabs.move f, h.rng.move f, let ⟨m, hm⟩ := h.mx; ⟨m, (Below.cell f (World.block_lt_of_cell? w _ hm)).trans hm⟩⟩
theorem key_any (l : List UInt8) (w : World) (hl : l.length ≤ 1000000) : Calls Tryz.prog 12 #[.string (tx l)] w fun e w' => e = .returned (.bool (keyB l)) ∧ Fresh w w' := by
  have HB := Lib.hid (fun W => byName_any l W)
  have HO : Hid (∀ W : World, Calls Tryz.prog 33 #[.string (tx l), .string ⟨#[46, 95, 47, 45]⟩] W fun e w' => e = .returned (.bool (onlyB inK (tx l).data.toList)) ∧ W = w') := fun W => hasOnly_any (tx l) [46, 95, 47, 45] W (by rw [tx_size]; exact hl)
  cases l with
  | nil =>
    have HX : Hid (keyB [] = false) := rfl
    rw [HX.out]
    have e1 : (tx []).toList.isEmpty = true := by rw [tx_list]; rfl
    generalize tx [] = s at *
    clear hl HB HO HX
    go_enter Tryz.func12, Tryz.ntmps12
    go_wp2_with fail
    go_ret
    exact ⟨rfl, Fresh.refl w⟩
  | cons c r =>
    have HL := Lib.hid (fun W => isLetter_any c W)
    obtain ⟨p1, p2, p3, p4⟩ : Cons (tx (c :: r)) c (tx r) := bs_cons c r
    have HK : Hid (keyB (c :: r) = ((letB c || decide (c.toNat = 95)) && (!namedB (c :: r) && onlyB inK (c :: r)))) := rfl
    rw [tx_toList] at HO
    rw [HK.out]
    clear HK hl
    generalize onlyB inK (c :: r) = ob at *
    generalize nameM (c :: r) = nm at *
    generalize namedB (c :: r) = nb at *
    generalize tx (c :: r) = s at *
    clear p3
    obtain ⟨k0, k1, k2, k3, ka, kc, kl, kb, kd, ks⟩ := nm
    cases h1 : letB c
    · by_cases h2 : c.toNat = 95
      · have g1 : ((c.toNat : Int) == 95) = true := by simp; omega
        have g2 : ((c.toNat : Int) != 95) = false := by simp; omega
        rw [decide_eq_true h2]
        clear h2
        rw [h1] at HL
        cases nb
        · go_enter Tryz.func12, Tryz.ntmps12
          go_wp2_with (first | (go_at_call 31; refine (HL.out _).mono ?_; rintro e w' ⟨rfl, rfl⟩) | (go_at_call 32; refine (HB.out _).mono ?_; rintro e w1 ⟨rfl, hf1⟩; have HF1 := Lib.hid hf1; clear hf1; unfold v.M.val) | (go_at_call 33; refine (HO.out _).mono ?_; rintro e w2 ⟨rfl, rfl⟩))
          go_ret
          exact ⟨by rfl, (HF1.out).alloc _⟩
        · go_enter Tryz.func12, Tryz.ntmps12
          go_wp2_with (first | (go_at_call 31; refine (HL.out _).mono ?_; rintro e w' ⟨rfl, rfl⟩) | (go_at_call 32; refine (HB.out _).mono ?_; rintro e w1 ⟨rfl, hf1⟩; have HF1 := Lib.hid hf1; clear hf1; unfold v.M.val) | (go_at_call 33; refine (HO.out _).mono ?_; rintro e w2 ⟨rfl, rfl⟩))
          go_ret
          exact ⟨by rfl, (HF1.out).alloc _⟩
      · have g1 : ((c.toNat : Int) == 95) = false := by simp; omega
        have g2 : ((c.toNat : Int) != 95) = true := by simp; omega
        rw [decide_eq_false h2]
        clear h2 HB HO
        rw [h1] at HL
        go_enter Tryz.func12, Tryz.ntmps12
        go_wp2_with (go_at_call 31; refine (HL.out _).mono ?_; rintro e w' ⟨rfl, rfl⟩)
        go_ret
        exact ⟨rfl, Fresh.refl w⟩
    · rw [h1] at HL
      cases nb
      · go_enter Tryz.func12, Tryz.ntmps12
        go_wp2_with (first | (go_at_call 31; refine (HL.out _).mono ?_; rintro e w' ⟨rfl, rfl⟩) | (go_at_call 32; refine (HB.out _).mono ?_; rintro e w1 ⟨rfl, hf1⟩; have HF1 := Lib.hid hf1; clear hf1; unfold v.M.val) | (go_at_call 33; refine (HO.out _).mono ?_; rintro e w2 ⟨rfl, rfl⟩))
        go_ret
        exact ⟨by rfl, (HF1.out).alloc _⟩
      · go_enter Tryz.func12, Tryz.ntmps12
        go_wp2_with (first | (go_at_call 31; refine (HL.out _).mono ?_; rintro e w' ⟨rfl, rfl⟩) | (go_at_call 32; refine (HB.out _).mono ?_; rintro e w1 ⟨rfl, hf1⟩; have HF1 := Lib.hid hf1; clear hf1; unfold v.M.val) | (go_at_call 33; refine (HO.out _).mono ?_; rintro e w2 ⟨rfl, rfl⟩))
        go_ret
        exact ⟨by rfl, (HF1.out).alloc _⟩
end y
namespace y
open Go.ChangeShapes Go.WideShapes Go.ChangeAt Go.RowKit Go.Shelf
open Go.ChangeMaps (open_string shut_string)
theorem lown : ownKnob Tryz.prog.godebug = none := by kernel_rfl
theorem first_eq : Rows.laid_unicode_utf8_first = Lib.firstData := by kernel_rfl
theorem accept_eq : (Rows.laid_unicode_utf8_acceptRanges : DataW Unit) = Lib.acceptData := by kernel_rfl
theorem u8types : U8Types Tryz.prog Tryz.laysValid_ren := U8Types.of196 Tryz.laysValid
theorem gR : Tryz.prog.globalNamed "strconv.ErrRange" = some 4 := by kernel_rfl
theorem gRType : (Tryz.prog.globals[4]?).map (·.type) = some 173 := by kernel_rfl
theorem cellsE : Tryz.prog.cellsOf 217 = 1 := by kernel_rfl
theorem cells9 : Tryz.prog.cellsOf 9 = 1 := by kernel_rfl
theorem star : "*" ++ "errors.errorString" = "*errors.errorString" := by decide
theorem rowE (u : TypeId) (h : Tryz.prog.typeName? 3 u = some "*errors.errorString") : u = 215 :=
  typeName_ptr_named (nm := "errors.errorString") (by rw [star]; kernel_rfl) (by kernel_rfl) (by decide) u (by rw [star]; exact h)
abbrev theLaid : List (String × DataW Unit) := [("math/bits.deBruijn32tab", Rows.laid_math_bits_deBruijn32tab), ("math/bits.deBruijn64tab", Rows.laid_math_bits_deBruijn64tab), ("internal/strconv.uint64pow10", Rows.laid_internal_strconv_uint64pow10), ("unicode/utf8.acceptRanges", Rows.laid_unicode_utf8_acceptRanges), ("strconv.ErrRange", Rows.laid_strconv_ErrRange), ("strconv.ErrSyntax", Rows.laid_strconv_ErrSyntax), ("unicode/utf8.first", Rows.laid_unicode_utf8_first)]
theorem utf8_tabs {W : World} (hL : laidMet Tryz.prog theLaid W) : Tabs W :=
  utf8Tabs_of_readsT u8types ⟨by kernel_rfl, by kernel_rfl, by kernel_rfl, by kernel_rfl, by kernel_rfl, by kernel_rfl, by kernel_rfl⟩
    (by rw [← first_eq]; exact Lib.laidMet.reads hL (.tail _ (.tail _ (.tail _ (.tail _ (.tail _ (.tail _ (.head _))))))))
    (by rw [← accept_eq]; exact Lib.laidMet.reads hL (.tail _ (.tail _ (.tail _ (.head _)))))
theorem range_var {W : World} (hL : laidMet Tryz.prog theLaid W) : RangeVar W := by
  obtain ⟨a, s, hv, _⟩ := laid_sentinel hL.tail.tail.tail.tail gR gRType Tryz.underlying173 rowE Tryz.underlying215 Tryz.underlying217 rfl rfl Tryz.underlying9 cellsE cells9
  exact ⟨_, _, hv⟩
theorem max_cell {W : World} (h : W.ShapedOpen Tryz.prog) : ∃ m : Int, W.cell? ⟨Tryz.laysCut_ren.g 1, 0, none⟩ = some (.int .i64 m) :=
  Go.Proofs.cell_of_shapedOpen_int (zero := #[.int .i64 0]) (t := 3) h (of_decide_eq_true (by kernel_rfl)) (by kernel_rfl) rfl (by kernel_rfl) (by kernel_rfl) Tryz.underlying3
theorem the_env {W : World} (hL : laidMet Tryz.prog theLaid W) (h : W.ShapedOpen Tryz.prog) : Env W := ⟨utf8_tabs hL, range_var hL, max_cell h⟩
def putCells (h : Array Obj) (g : Nat) (cs : Array Value) : Array Obj := h.modify g fun o => match o with
  | .cells _ t frozen => .cells cs t frozen
  | o => o
noncomputable def low : Nat := (World.holding Tryz.prog default ⟨#[], #[], []⟩).heap.size
def ints (k : IntKind) : DataW Unit → Array Value
  | .agg l => (l.map fun d => match d with | .lit (.int _ n) => Value.int k n | _ => Value.int k 0).toArray
  | _ => #[]
noncomputable def laidWorld (os : Os) : World :=
  let w0 := World.holding Tryz.prog os ⟨#[.cells #[.string ⟨#[105, 110, 118, 97, 108, 105, 100, 32, 115, 121, 110, 116, 97, 120]⟩] 217, .cells #[.string ⟨#[118, 97, 108, 117, 101, 32, 111, 117, 116, 32, 111, 102, 32, 114, 97, 110, 103, 101]⟩] 217], #[], []⟩
  { w0 with heap := putCells (putCells (putCells (putCells (putCells (putCells (putCells w0.heap 3 #[.iface 215 (.pointer (some ⟨low, 0, none⟩))]) 4 #[.iface 215 (.pointer (some ⟨low + 1, 0, none⟩))])
      0 (Lib.firstTab.map fun z => Value.int .u8 z).toArray) 1 ((List.range 16).flatMap fun i => [Value.int .u8 (Lib.accLo i), Value.int .u8 (Lib.accHi i)]).toArray)
      5 (ints .u64 Rows.laid_internal_strconv_uint64pow10)) 6 (ints .u8 Rows.laid_math_bits_deBruijn32tab)) 7 (ints .u8 Rows.laid_math_bits_deBruijn64tab) }
theorem laid_met (os : Os) (args : Array Value) : laidMet Tryz.prog theLaid ((laidWorld os).forCall (fun _ _ => 0) ⟨#[], args, []⟩).memory :=
  (LaidIn.of_run (l := theLaid) [6, 7, 5, 1, 4, low + 1, 3, low, 0] 8 (by kernel_rfl) (by kernel_rfl) (by kernel_rfl) (by kernel_rfl)).met
end y
namespace y
open Go.ChangeShapes Go.WideShapes Go.ChangeAt Go.RowKit
attribute [local go_sem ↓] Go.wp_at_zero Go.wp_at_succ
variable {w : World}
theorem rdigit_any (c : UInt8) (w : World) : Calls Tryz.prog 119 #[.int .u8 (c.toNat : Int)] w fun e w' => e = .returned (.int .i64 (hexv c)) ∧ w = w' := by
  have hc : (c.toNat < 48) ∨ (48 ≤ c.toNat ∧ c.toNat ≤ 57) ∨ (58 ≤ c.toNat ∧ c.toNat < 65) ∨ (65 ≤ c.toNat ∧ c.toNat ≤ 70) ∨ (71 ≤ c.toNat ∧ c.toNat < 97) ∨ (97 ≤ c.toNat ∧ c.toNat ≤ 102) ∨ (103 ≤ c.toNat) := by omega
  have hlt := c.toNat_lt
  rcases hc with h | h | h | h | h | h | h
  · have H : Hid (hexv c = -1) := by unfold Hid hexv; (repeat' split) <;> omega
    have a0 : ¬ (48 : Int) ≤ (c.toNat : Int) := by omega
    have a2 : ¬ (97 : Int) ≤ (c.toNat : Int) := by omega
    have a4 : ¬ (65 : Int) ≤ (c.toNat : Int) := by omega
    clear h
    go_enter Tryz.func119, Tryz.ntmps119
    go_wp2
    go_ret
    exact ⟨by rw [H.out]; rfl, rfl⟩
  · have H : Hid (hexv c = (c.toNat : Int) - 48) := by unfold Hid hexv; (repeat' split) <;> omega
    have a0 : (48 : Int) ≤ (c.toNat : Int) := by omega
    have a1 : (c.toNat : Int) ≤ 57 := by omega
    have hw : IntKind.i64.wrap ((c.toNat : Int) - 48) = (c.toNat : Int) - 48 := IntWalk.i64_in _ (by omega)
    clear h
    go_enter Tryz.func119, Tryz.ntmps119
    go_wp2
    go_ret
    exact ⟨by rw [H.out]; rfl, rfl⟩
  · have H : Hid (hexv c = -1) := by unfold Hid hexv; (repeat' split) <;> omega
    have a0 : (48 : Int) ≤ (c.toNat : Int) := by omega
    have a1 : ¬ (c.toNat : Int) ≤ 57 := by omega
    have a2 : ¬ (97 : Int) ≤ (c.toNat : Int) := by omega
    have a4 : ¬ (65 : Int) ≤ (c.toNat : Int) := by omega
    clear h
    go_enter Tryz.func119, Tryz.ntmps119
    go_wp2
    go_ret
    exact ⟨by rw [H.out]; rfl, rfl⟩
  · have H : Hid (hexv c = (c.toNat : Int) - 55) := by unfold Hid hexv; (repeat' split) <;> omega
    have a0 : (48 : Int) ≤ (c.toNat : Int) := by omega
    have a1 : ¬ (c.toNat : Int) ≤ 57 := by omega
    have a2 : ¬ (97 : Int) ≤ (c.toNat : Int) := by omega
    have a4 : (65 : Int) ≤ (c.toNat : Int) := by omega
    have a5 : (c.toNat : Int) ≤ 70 := by omega
    have hw : IntKind.i64.wrap ((c.toNat : Int) - 55) = (c.toNat : Int) - 55 := IntWalk.i64_in _ (by omega)
    clear h
    go_enter Tryz.func119, Tryz.ntmps119
    go_wp2
    go_ret
    exact ⟨by rw [H.out]; rfl, rfl⟩
  · have H : Hid (hexv c = -1) := by unfold Hid hexv; (repeat' split) <;> omega
    have a0 : (48 : Int) ≤ (c.toNat : Int) := by omega
    have a1 : ¬ (c.toNat : Int) ≤ 57 := by omega
    have a2 : ¬ (97 : Int) ≤ (c.toNat : Int) := by omega
    have a4 : (65 : Int) ≤ (c.toNat : Int) := by omega
    have a5 : ¬ (c.toNat : Int) ≤ 70 := by omega
    clear h
    go_enter Tryz.func119, Tryz.ntmps119
    go_wp2
    go_ret
    exact ⟨by rw [H.out]; rfl, rfl⟩
  · have H : Hid (hexv c = (c.toNat : Int) - 87) := by unfold Hid hexv; (repeat' split) <;> omega
    have a0 : (48 : Int) ≤ (c.toNat : Int) := by omega
    have a1 : ¬ (c.toNat : Int) ≤ 57 := by omega
    have a2 : (97 : Int) ≤ (c.toNat : Int) := by omega
    have a3 : (c.toNat : Int) ≤ 102 := by omega
    have hw : IntKind.i64.wrap ((c.toNat : Int) - 87) = (c.toNat : Int) - 87 := IntWalk.i64_in _ (by omega)
    clear h
    go_enter Tryz.func119, Tryz.ntmps119
    go_wp2
    go_ret
    exact ⟨by rw [H.out]; rfl, rfl⟩
  · have H : Hid (hexv c = -1) := by unfold Hid hexv; (repeat' split) <;> omega
    have a0 : (48 : Int) ≤ (c.toNat : Int) := by omega
    have a1 : ¬ (c.toNat : Int) ≤ 57 := by omega
    have a2 : (97 : Int) ≤ (c.toNat : Int) := by omega
    have a3 : ¬ (c.toNat : Int) ≤ 102 := by omega
    have a4 : (65 : Int) ≤ (c.toNat : Int) := by omega
    have a5 : ¬ (c.toNat : Int) ≤ 70 := by omega
    clear h
    go_enter Tryz.func119, Tryz.ntmps119
    go_wp2
    go_ret
    exact ⟨by rw [H.out]; rfl, rfl⟩
theorem pow_step (q : Nat) (v d : Int) (hq : q < 4) (h0 : 0 ≤ v) (h1 : v < 16 ^ q) (h2 : 0 ≤ d) (h3 : d ≤ 15) : v * 16 + d < 16 ^ (q + 1) ∧ v < 4096 := by
  rcases q with _ | _ | _ | _ | q
  · simp at *; omega
  · simp at *; omega
  · simp at *; omega
  · simp at *; omega
  · omega
theorem rfour_any (s : ByteArray) (at0 : Nat) (w : World) (_hs : s.size ≤ 1000000) (ha : at0 ≤ 1000000) : Calls Tryz.prog 90 #[.string s, .int .i64 (at0 : Int)] w fun e w' =>
    e = .returned (.tuple #[.int .i64 (numF 4 0 (s.data.toList.drop at0)).2.1, .int .i64 (numF 4 0 (s.data.toList.drop at0)).1]) ∧ w = w' := by
  have HD := Lib.hid (fun c W => rdigit_any c W)
  have hsz : s.data.toList.length = s.size := Array.length_toList
  have HSZ := Lib.hid hsz
  clear hsz
  have hw4 : IntKind.i64.wrap ((at0 : Int) + 4) = (at0 : Int) + 4 := IntWalk.i64_in _ (by omega)
  generalize hX : numF 4 0 (s.data.toList.drop at0) = X
  have HX := Lib.hid hX
  clear hX
  go_enter Tryz.func90, Tryz.ntmps90
  go_wp2
  go_loop [6, 7] (fun a i => ∃ (q : Nat) (v : Int), q ≤ 4 ∧ i = .int .i64 ((at0 : Int) + (q : Int)) ∧ a = .int .i64 v ∧ Hid (0 ≤ v ∧ v < 16 ^ q) ∧ Hid (X = numF (4 - q) v (s.data.toList.drop (at0 + q)))) (fun _ i => at0 + 4 - (intOf i).toNat)
  case atStart => exact ⟨0, 0, by omega, by simp, rfl, ⟨by omega, by decide⟩, HX.out.symm⟩
  case round =>
    obtain ⟨q, v, hq, rfl, rfl, HV, HE⟩ := hrel
    by_cases hqt : q < 4
    · have g1 : (at0 : Int) + (q : Int) < (at0 : Int) + 4 := by omega
      by_cases hin : at0 + q < s.size
      · have g2 : ¬ (s.size : Int) ≤ (at0 : Int) + (q : Int) := by omega
        have g3 : (0 : Int) ≤ (at0 : Int) + (q : Int) ∧ (at0 : Int) + (q : Int) < (s.size : Int) := ⟨by omega, by omega⟩
        have e4 : ((at0 : Int) + (q : Int)).toNat = at0 + q := by omega
        have HS : Hid (s.data.toList.drop (at0 + q) = s[at0 + q] :: s.data.toList.drop (at0 + q + 1)) := List.drop_eq_getElem_cons (by rw [HSZ.out]; exact hin)
        have HN : Hid (X = if hexv s[at0 + q] < 0 then (6, 0, []) else numF (4 - (q + 1)) (v * 16 + hexv s[at0 + q]) (s.data.toList.drop (at0 + (q + 1)))) := by
          rw [Hid, HE.out, HS.out, show 4 - q = 4 - (q + 1) + 1 by omega, numF]
          rfl
        clear HS HE
        go_wp2_with fail
        refine (HD.out _ _).mono ?_
        rintro e w' ⟨rfl, rfl⟩
        have hb := hexv_bd s[at0 + q]
        generalize hexv s[at0 + q] = d at *
        by_cases hn : d < 0
        · have HR : Hid (X = (6, 0, [])) := by rw [Hid, HN.out, if_pos hn]
          clear HN
          go_wp2
          go_ret2
          exact ⟨by rw [HR.out]; rfl, rfl⟩
        · have HR : Hid (X = numF (4 - (q + 1)) (v * 16 + d) (s.data.toList.drop (at0 + (q + 1)))) := by rw [Hid, HN.out, if_neg hn]
          obtain ⟨b1, b2⟩ := pow_step q v d hqt HV.out.1 HV.out.2 (by omega) hb.2
          have b0 := HV.out.1
          have m1 : IntKind.i64.wrap (v * 16) = v * 16 := IntWalk.i64_in _ (by omega)
          have m2 : IntKind.i64.wrap (v * 16 + d) = v * 16 + d := IntWalk.i64_in _ (by omega)
          have m3 : IntKind.i64.wrap ((at0 : Int) + (q : Int) + 1) = (at0 : Int) + (q : Int) + 1 := IntWalk.i64_in _ (by omega)
          have HB : Hid (0 ≤ v * 16 + d ∧ v * 16 + d < 16 ^ (q + 1)) := ⟨by omega, b1⟩
          clear HN b1 HV
          go_wp2
          exact ⟨⟨q + 1, v * 16 + d, by omega, by push_cast; congr 1, rfl, HB, HR⟩, by simp [intOf]; omega⟩
      · have g2 : (s.size : Int) ≤ (at0 : Int) + (q : Int) := by omega
        have HR : Hid (X = (11, 0, [])) := by
          rw [Hid, HE.out, List.drop_of_length_le (by rw [HSZ.out]; omega), show 4 - q = 4 - (q + 1) + 1 by omega, numF]
        clear HE
        go_wp2
        go_ret2
        exact ⟨by rw [HR.out]; rfl, rfl⟩
    · obtain rfl : q = 4 := by omega
      have HR : Hid (X = (0, v, s.data.toList.drop (at0 + 4))) := by rw [Hid, HE.out, Nat.sub_self, numF]
      clear HE
      go_wp2
      go_ret2
      exact ⟨by rw [HR.out]; rfl, rfl⟩
theorem u8w (x : Int) (h0 : 0 ≤ x) (h1 : x < 256) : IntKind.u8.wrap x = x := by
  simp [IntKind.wrap, IntKind.signed, IntKind.bits]; omega
theorem conv_zs (w : World) (zs : List Int) (hz : ∀ x ∈ zs, 0 ≤ x ∧ x < 256) (n : Nat) (hn : zs.length = n) :
    (convert 145 9 (.slice (some ⟨w.heap.size, 0, none⟩) n n)).run Tryz.prog (w.alloc (.cells (zs.map fun x => Value.int .u8 x).toArray 5)) = .ok (.string (tx (zs.map fun x => x.toNat.toUInt8))) (w.alloc (.cells (zs.map fun x => Value.int .u8 x).toArray 5)) := by
  subst hn
  have k := run_convert_bytes_back (P := Tryz.prog) (w.alloc (.cells (zs.map fun x => Value.int .u8 x).toArray 5)) 145 9 5 ⟨w.heap.size, 0, none⟩ zs.length (zs.map fun x => x.toNat.toUInt8) Tryz.underlying145 Tryz.underlying5 Tryz.underlying9 (fun j hj => by
    have e : (⟨w.heap.size, 0, none⟩ : Addr).add j = ⟨w.heap.size, j, none⟩ := by simp [Addr.add]; exact fun h => h.symm
    rw [e, World.cell?_alloc_at _ _ _ _ rfl]
    have hj' : j < zs.length := by simpa using hj
    obtain ⟨h0, h1⟩ := hz zs[j] (List.getElem_mem hj')
    simp [hj']
    omega)
  rw [List.length_map] at k
  exact k
theorem char_one (v : Int) (h0 : 0 ≤ v) (h1 : v ≤ 127) (w : World) : Calls Tryz.prog 91 #[.int .i64 v] w fun e w' => e = .returned (.string (tx (Lib.encodeRune v))) ∧ Fresh w w' := by
  have hcv := conv_zs w [v] (by intro x hx; simp only [List.mem_cons, List.not_mem_nil, or_false] at hx; rcases hx with rfl <;> omega) 1 rfl
  have hx : Lib.encodeRune v = [v].map fun x => x.toNat.toUInt8 := by
    unfold Lib.encodeRune
    rw [Lib.encodeRuneZ_one h0 h1]
  have HX := Lib.hid hx
  clear hx
  simp only [List.map_cons, List.map_nil] at hcv
  have g1 : v < 128 := by omega
  have u1 : IntKind.u8.wrap v = v := u8w v (by omega) (by omega)
  go_enter Tryz.func91, Tryz.ntmps91
  go_wp2
  go_ret
  exact ⟨by rw [HX.out]; rfl, (Fresh.refl w).alloc _⟩
theorem char_two (v : Int) (h0 : 128 ≤ v) (h1 : v ≤ 2047) (w : World) : Calls Tryz.prog 91 #[.int .i64 v] w fun e w' => e = .returned (.string (tx (Lib.encodeRune v))) ∧ Fresh w w' := by
  have hcv := conv_zs w [192 + v / 64, 128 + v % 64] (by intro x hx; simp only [List.mem_cons, List.not_mem_nil, or_false] at hx; rcases hx with rfl | rfl <;> omega) 2 rfl
  have hx : Lib.encodeRune v = [192 + v / 64, 128 + v % 64].map fun x => x.toNat.toUInt8 := by
    unfold Lib.encodeRune
    rw [Lib.encodeRuneZ_two h0 h1]
  have HX := Lib.hid hx
  clear hx
  simp only [List.map_cons, List.map_nil] at hcv
  have g1 : ¬ v < 128 := by omega
  have g2 : v < 2048 := by omega
  have d1 : v.tdiv 64 = v / 64 := Int.tdiv_eq_ediv_of_nonneg (by omega)
  have r1 : v.tmod 64 = v % 64 := Int.tmod_eq_emod_of_nonneg (by omega)
  have p1 : IntKind.i64.wrap (192 + v / 64) = 192 + v / 64 := IntWalk.i64_in _ (by omega)
  have u1 : IntKind.u8.wrap (192 + v / 64) = 192 + v / 64 := u8w _ (by omega) (by omega)
  have p2 : IntKind.i64.wrap (128 + v % 64) = 128 + v % 64 := IntWalk.i64_in _ (by omega)
  have u2 : IntKind.u8.wrap (128 + v % 64) = 128 + v % 64 := u8w _ (by omega) (by omega)
  go_enter Tryz.func91, Tryz.ntmps91
  go_wp2
  go_ret
  exact ⟨by rw [HX.out]; rfl, (Fresh.refl w).alloc _⟩
theorem char_three (v : Int) (h : (2048 ≤ v ∧ v < 55296) ∨ (57343 < v ∧ v ≤ 65535)) (w : World) : Calls Tryz.prog 91 #[.int .i64 v] w fun e w' => e = .returned (.string (tx (Lib.encodeRune v))) ∧ Fresh w w' := by
  have hcv := conv_zs w [224 + v / 4096, 128 + v / 64 % 64, 128 + v % 64] (by intro x hx; simp only [List.mem_cons, List.not_mem_nil, or_false] at hx; rcases hx with rfl | rfl | rfl <;> omega) 3 rfl
  have hx : Lib.encodeRune v = [224 + v / 4096, 128 + v / 64 % 64, 128 + v % 64].map fun x => x.toNat.toUInt8 := by
    unfold Lib.encodeRune
    rw [Lib.encodeRuneZ_three h]
  have HX := Lib.hid hx
  clear hx
  simp only [List.map_cons, List.map_nil] at hcv
  have g1 : ¬ v < 128 := by omega
  have g2 : ¬ v < 2048 := by omega
  have g3 : v < 65536 := by omega
  have d1 : v.tdiv 64 = v / 64 := Int.tdiv_eq_ediv_of_nonneg (by omega)
  have d2 : v.tdiv 4096 = v / 4096 := Int.tdiv_eq_ediv_of_nonneg (by omega)
  have r1 : v.tmod 64 = v % 64 := Int.tmod_eq_emod_of_nonneg (by omega)
  have r2 : (v / 64).tmod 64 = v / 64 % 64 := Int.tmod_eq_emod_of_nonneg (by omega)
  have p1 : IntKind.i64.wrap (224 + v / 4096) = 224 + v / 4096 := IntWalk.i64_in _ (by omega)
  have u1 : IntKind.u8.wrap (224 + v / 4096) = 224 + v / 4096 := u8w _ (by omega) (by omega)
  have p2 : IntKind.i64.wrap (128 + v / 64 % 64) = 128 + v / 64 % 64 := IntWalk.i64_in _ (by omega)
  have u2 : IntKind.u8.wrap (128 + v / 64 % 64) = 128 + v / 64 % 64 := u8w _ (by omega) (by omega)
  have p3 : IntKind.i64.wrap (128 + v % 64) = 128 + v % 64 := IntWalk.i64_in _ (by omega)
  have u3 : IntKind.u8.wrap (128 + v % 64) = 128 + v % 64 := u8w _ (by omega) (by omega)
  go_enter Tryz.func91, Tryz.ntmps91
  go_wp2
  go_ret
  exact ⟨by rw [HX.out]; rfl, (Fresh.refl w).alloc _⟩
theorem char_four (v : Int) (h0 : 65536 ≤ v) (h1 : v ≤ 1114111) (w : World) : Calls Tryz.prog 91 #[.int .i64 v] w fun e w' => e = .returned (.string (tx (Lib.encodeRune v))) ∧ Fresh w w' := by
  have hcv := conv_zs w [240 + v / 262144, 128 + v / 4096 % 64, 128 + v / 64 % 64, 128 + v % 64] (by intro x hx; simp only [List.mem_cons, List.not_mem_nil, or_false] at hx; rcases hx with rfl | rfl | rfl | rfl <;> omega) 4 rfl
  have hx : Lib.encodeRune v = [240 + v / 262144, 128 + v / 4096 % 64, 128 + v / 64 % 64, 128 + v % 64].map fun x => x.toNat.toUInt8 := by
    unfold Lib.encodeRune
    rw [Lib.encodeRuneZ_four h0 h1]
  have HX := Lib.hid hx
  clear hx
  simp only [List.map_cons, List.map_nil] at hcv
  have g1 : ¬ v < 128 := by omega
  have g2 : ¬ v < 2048 := by omega
  have g3 : ¬ v < 65536 := by omega
  have d1 : v.tdiv 64 = v / 64 := Int.tdiv_eq_ediv_of_nonneg (by omega)
  have d2 : v.tdiv 4096 = v / 4096 := Int.tdiv_eq_ediv_of_nonneg (by omega)
  have d3 : v.tdiv 262144 = v / 262144 := Int.tdiv_eq_ediv_of_nonneg (by omega)
  have r1 : v.tmod 64 = v % 64 := Int.tmod_eq_emod_of_nonneg (by omega)
  have r2 : (v / 64).tmod 64 = v / 64 % 64 := Int.tmod_eq_emod_of_nonneg (by omega)
  have r3 : (v / 4096).tmod 64 = v / 4096 % 64 := Int.tmod_eq_emod_of_nonneg (by omega)
  have p1 : IntKind.i64.wrap (240 + v / 262144) = 240 + v / 262144 := IntWalk.i64_in _ (by omega)
  have u1 : IntKind.u8.wrap (240 + v / 262144) = 240 + v / 262144 := u8w _ (by omega) (by omega)
  have p2 : IntKind.i64.wrap (128 + v / 4096 % 64) = 128 + v / 4096 % 64 := IntWalk.i64_in _ (by omega)
  have u2 : IntKind.u8.wrap (128 + v / 4096 % 64) = 128 + v / 4096 % 64 := u8w _ (by omega) (by omega)
  have p3 : IntKind.i64.wrap (128 + v / 64 % 64) = 128 + v / 64 % 64 := IntWalk.i64_in _ (by omega)
  have u3 : IntKind.u8.wrap (128 + v / 64 % 64) = 128 + v / 64 % 64 := u8w _ (by omega) (by omega)
  have p4 : IntKind.i64.wrap (128 + v % 64) = 128 + v % 64 := IntWalk.i64_in _ (by omega)
  have u4 : IntKind.u8.wrap (128 + v % 64) = 128 + v % 64 := u8w _ (by omega) (by omega)
  go_enter Tryz.func91, Tryz.ntmps91
  go_wp2
  go_ret
  exact ⟨by rw [HX.out]; rfl, (Fresh.refl w).alloc _⟩
theorem rchar_any (v : Int) (h0 : 0 ≤ v) (h1 : v ≤ 1114111) (hs : v < 55296 ∨ 57343 < v) (w : World) : Calls Tryz.prog 91 #[.int .i64 v] w fun e w' => e = .returned (.string (tx (Lib.encodeRune v))) ∧ Fresh w w' := by
  by_cases a : v ≤ 127
  · exact char_one v h0 a w
  by_cases b : v ≤ 2047
  · exact char_two v (by omega) b w
  by_cases c : v ≤ 65535
  · exact char_three v (by omega) w
  · exact char_four v (by omega) h1 w
end y
namespace y
open Go.Lib
theorem checkN_short {n b1 b2 b3 sz lo hi : Nat} (h : n < sz) : checkN n b1 b2 b3 sz lo hi = none := by
  unfold checkN
  repeat' split
  all_goals first | rfl | (exfalso; omega)
theorem checkN_some {n b1 b2 b3 sz lo hi k : Nat} (h : checkN n b1 b2 b3 sz lo hi = some k) : k = sz ∧ 2 ≤ sz ∧ sz ≤ 4 ∧ sz ≤ n := by
  unfold checkN at h
  repeat' split at h
  all_goals first | (cases h; done) | (cases h; omega)
theorem checkN_same {n m b1 b2 b3 c2 c3 sz lo hi : Nat} (hn : sz ≤ n) (hm : sz ≤ m) (h2 : 2 < sz → c2 = b2) (h3 : 3 < sz → c3 = b3) : checkN n b1 b2 b3 sz lo hi = checkN m b1 c2 c3 sz lo hi := by
  unfold checkN
  by_cases a : sz = 2
  · rw [if_pos a, if_pos a]
    by_cases b : n < 2 ∨ b1 < lo ∨ hi < b1
    · rw [if_pos b, if_pos (by omega)]
    · rw [if_neg b, if_neg (by omega)]
  rw [if_neg a, if_neg a]
  by_cases a3 : sz = 3
  · have := h2 (by omega)
    subst this
    rw [if_pos a3, if_pos a3]
    by_cases b : n < 3 ∨ b1 < lo ∨ hi < b1 ∨ c2 < 128 ∨ 191 < c2
    · rw [if_pos b, if_pos (by omega)]
    · rw [if_neg b, if_neg (by omega)]
  rw [if_neg a3, if_neg a3]
  by_cases a4 : sz = 4
  · have := h2 (by omega)
    have := h3 (by omega)
    subst c2; subst c3
    rw [if_pos a4, if_pos a4]
    by_cases b : n < 4 ∨ b1 < lo ∨ hi < b1 ∨ b2 < 128 ∨ 191 < b2 ∨ b3 < 128 ∨ 191 < b3
    · rw [if_pos b, if_pos (by omega)]
    · rw [if_neg b, if_neg (by omega)]
  rw [if_neg a4, if_neg a4]
theorem getD_take (l : List UInt8) (m i : Nat) (h : i < m) : (l.take m).getD i 0 = l.getD i 0 := by
  rw [List.getD_eq_getElem?_getD, List.getD_eq_getElem?_getD, List.getElem?_take_of_lt h]
theorem len_math (l : List UInt8) (hne : l ≠ []) :
    (validD (l.take (chLen l)) = true ∧ ∀ m, 1 ≤ m → m < chLen l → validD (l.take m) = false) ∨ (validD (l.take (chLen l)) = false ∧ ∀ m, 1 ≤ m → m ≤ l.length → m ≤ 4 → validD (l.take m) = false) := by
  have hlp : 0 < l.length := List.length_pos_iff.2 hne
  have hcl := chLen_bd l hne
  have hch : chLen l = (decodeN l.length (l.getD 0 0).toNat (l.getD 1 0).toNat (l.getD 2 0).toNat (l.getD 3 0).toNat).2 := by rw [chLen, dec_bs l hne]
  by_cases h0 : (l.getD 0 0).toNat < 128
  · have h1 : chLen l = 1 := by rw [hch]; unfold decodeN; rw [if_pos h0]
    left
    rw [h1]
    refine ⟨?_, fun m h2 h3 => by omega⟩
    cases l with
    | nil => exact absurd rfl hne
    | cons c r =>
      rw [List.take_succ_cons, List.take_zero, validD_cons c [] (by simpa using h0)]
      rfl
  · have hlead : ∀ m, 1 ≤ m → m ≤ l.length → validD (l.take m) = match checkN m ((l.take m).getD 1 0).toNat ((l.take m).getD 2 0).toNat ((l.take m).getD 3 0).toNat (firstT (l.getD 0 0).toNat % 8) (accLo (firstT (l.getD 0 0).toNat / 16)) (accHi (firstT (l.getD 0 0).toNat / 16)) with
        | none => false
        | some k => validD ((l.take m).drop k) := fun m h1 h2 => by
      have e0 : (l.take m).getD 0 0 = l.getD 0 0 := getD_take l m 0 (by omega)
      have hlen : (l.take m).length = m := by rw [List.length_take]; omega
      have k := validD_lead (l.take m) (fun e => by rw [e] at hlen; simp at hlen; omega) (by rw [e0]; omega)
      rw [e0, hlen] at k
      exact k
    have hsame : ∀ m, firstT (l.getD 0 0).toNat % 8 ≤ m → m ≤ l.length → 2 ≤ firstT (l.getD 0 0).toNat % 8 → checkN m ((l.take m).getD 1 0).toNat ((l.take m).getD 2 0).toNat ((l.take m).getD 3 0).toNat (firstT (l.getD 0 0).toNat % 8) (accLo (firstT (l.getD 0 0).toNat / 16)) (accHi (firstT (l.getD 0 0).toNat / 16)) =
        checkN l.length (l.getD 1 0).toNat (l.getD 2 0).toNat (l.getD 3 0).toNat (firstT (l.getD 0 0).toNat % 8) (accLo (firstT (l.getD 0 0).toNat / 16)) (accHi (firstT (l.getD 0 0).toNat / 16)) := fun m h1 h2 h3 => by
      rw [getD_take l m 1 (by omega)]
      exact checkN_same h1 (by omega) (fun h => by rw [getD_take l m 2 (by omega)]) (fun h => by rw [getD_take l m 3 (by omega)])
    have hnone : ∀ m, checkN m ((l.take m).getD 1 0).toNat ((l.take m).getD 2 0).toNat ((l.take m).getD 3 0).toNat (firstT (l.getD 0 0).toNat % 8) (accLo (firstT (l.getD 0 0).toNat / 16)) (accHi (firstT (l.getD 0 0).toNat / 16)) = none → 1 ≤ m → m ≤ l.length → validD (l.take m) = false := fun m h h1 h2 => by
      rw [hlead m h1 h2, h]
    rcases check_decode l.length (l.getD 0 0).toNat (l.getD 1 0).toNat (l.getD 2 0).toNat (l.getD 3 0).toNat hlp (by omega) (l.getD 0 0).toNat_lt (l.getD 1 0).toNat_lt (l.getD 2 0).toNat_lt (l.getD 3 0).toNat_lt with ⟨hc, _⟩ | ⟨k, hk, hc, hd⟩
    · right
      have all : ∀ m, 1 ≤ m → m ≤ l.length → validD (l.take m) = false := fun m h1 h2 => by
        refine hnone m ?_ h1 h2
        cases hx : checkN m ((l.take m).getD 1 0).toNat ((l.take m).getD 2 0).toNat ((l.take m).getD 3 0).toNat (firstT (l.getD 0 0).toNat % 8) (accLo (firstT (l.getD 0 0).toNat / 16)) (accHi (firstT (l.getD 0 0).toNat / 16)) with
        | none => rfl
        | some j =>
          obtain ⟨_, h3, _, h5⟩ := checkN_some hx
          rw [hsame m h5 h2 h3, hc] at hx
          cases hx
      exact ⟨all _ hcl.1 hcl.2.1, fun m h1 h2 _ => all m h1 h2⟩
    · left
      obtain ⟨h1, h2, h3, h4⟩ := checkN_some hc
      have e : chLen l = k := by rw [hch, hd]
      rw [e]
      refine ⟨?_, fun m h5 h6 => hnone m (checkN_short (by omega)) h5 (by omega)⟩
      rw [hlead k (by omega) (by omega), hsame k (by omega) (by omega) h2, hc]
      dsimp only
      rw [List.drop_of_length_le (by rw [List.length_take]; omega)]
      rfl
end y
section
open Go.ChangeShapes Go.WideShapes Go.ChangeAt Go.RowKit
variable {w : World}
theorem utf8_any (s : ByteArray) (w : World) (hs : s.size ≤ 1000000) : Calls Tryz.prog 87 #[.string s] w fun e w' => e = .returned (.bool (Lib.validD s.data.toList)) ∧ w = w' := by
  go_enter Tryz.func87, Tryz.ntmps87
  go_wp2
  go_loop [3] (fun i => ∃ k : Nat, k ≤ s.size + 3 ∧ i = .int .i64 k ∧ Hid (Lib.validD s.data.toList = Lib.validD (s.data.toList.drop k))) (fun i => s.size + 4 - (intOf i).toNat)
  case atStart => exact ⟨0, by omega, rfl, rfl⟩
  case round =>
    obtain ⟨i, hi, rfl, HI⟩ := hrel
    by_cases hlt : i < s.size
    · have hcb : (s[i].toNat : Int) ≤ 255 := by have := s[i].toNat_lt; omega
      go_upto_block 2 with (fail)
      go_cut [0, 3, 5, 6, 7] (fun a0 a3 a5 a6 a7 wc => a0 = .string s ∧ a3 = .int .i64 i ∧ wc = w ∧ ∃ n lo hi : Nat, n ≤ 3 ∧ lo ≤ 255 ∧ hi ≤ 255 ∧ a5 = .int .u8 lo ∧ a6 = .int .u8 hi ∧ a7 = .int .i64 n ∧ Hid (Lead s i n lo hi))
      case first =>
        by_cases c0 : s[i].toNat < 128
        · have HL := Lib.hid (lead_ascii s i hlt c0)
          have hc : (s[i].toNat : Int) < 128 := by omega
          clear c0
          go_wp2
          go_meet
          case rel => exact ⟨rfl, rfl, rfl, 0, 128, 191, by omega, by omega, by omega, rfl, rfl, rfl, HL.out⟩
        have h0 : ¬ (s[i].toNat : Int) < 128 := by omega
        by_cases c1 : s[i].toNat < 194
        · have HL := Lib.hid (lead_bad s i hlt (by omega) (by simp [Lib.firstT, c0, c1]))
          have e1 : ¬ (194 : Int) ≤ (s[i].toNat : Int) := by omega
          have e2 : ¬ (224 : Int) ≤ (s[i].toNat : Int) := by omega
          have e3 : ¬ (240 : Int) ≤ (s[i].toNat : Int) := by omega
          clear c0 c1
          go_wp2
          go_ret
          exact ⟨ret_bool (by rw [HI.out, HL.out]), rfl⟩
        have h1 : (194 : Int) ≤ (s[i].toNat : Int) := by omega
        by_cases c2 : s[i].toNat < 224
        · have HL := Lib.hid (lead_of s i 1 128 191 hlt (by omega) (by omega) (by simp [Lib.firstT, c0, c1, c2]) (by simp [Lib.firstT, Lib.accLo, c0, c1, c2]) (by simp [Lib.firstT, Lib.accHi, c0, c1, c2]))
          have e1 : (s[i].toNat : Int) ≤ 223 := by omega
          clear c0 c1 c2
          go_wp2
          go_meet
          case rel => exact ⟨rfl, rfl, rfl, 1, 128, 191, by omega, by omega, by omega, rfl, rfl, rfl, HL.out⟩
        have h2 : ¬ (s[i].toNat : Int) ≤ 223 := by omega
        have h3 : (224 : Int) ≤ (s[i].toNat : Int) := by omega
        by_cases c3 : s[i].toNat = 224
        · have HL := Lib.hid (lead_of s i 2 160 191 hlt (by omega) (by omega) (by rw [c3]; decide) (by rw [c3]; decide) (by rw [c3]; decide))
          have e1 : (s[i].toNat : Int) ≤ 239 := by omega
          have e2 : ((s[i].toNat : Int) == 224) = true := by simp; omega
          have e3 : ((s[i].toNat : Int) == 237) = false := by simp; omega
          clear c0 c1 c2 c3
          go_wp2
          go_meet
          case rel => exact ⟨rfl, rfl, rfl, 2, 160, 191, by omega, by omega, by omega, rfl, rfl, rfl, HL.out⟩
        have h4 : ((s[i].toNat : Int) == 224) = false := by simp; omega
        by_cases c4 : s[i].toNat < 237
        · have HL := Lib.hid (lead_of s i 2 128 191 hlt (by omega) (by omega) (by simp [Lib.firstT, c0, c1, c2, c3, c4]) (by simp [Lib.firstT, Lib.accLo, c0, c1, c2, c3, c4]) (by simp [Lib.firstT, Lib.accHi, c0, c1, c2, c3, c4]))
          have e1 : (s[i].toNat : Int) ≤ 239 := by omega
          have e3 : ((s[i].toNat : Int) == 237) = false := by simp; omega
          clear c0 c1 c2 c3 c4
          go_wp2
          go_meet
          case rel => exact ⟨rfl, rfl, rfl, 2, 128, 191, by omega, by omega, by omega, rfl, rfl, rfl, HL.out⟩
        by_cases c5 : s[i].toNat = 237
        · have HL := Lib.hid (lead_of s i 2 128 159 hlt (by omega) (by omega) (by rw [c5]; decide) (by rw [c5]; decide) (by rw [c5]; decide))
          have e1 : (s[i].toNat : Int) ≤ 239 := by omega
          have e3 : ((s[i].toNat : Int) == 237) = true := by simp; omega
          clear c0 c1 c2 c3 c4 c5
          go_wp2
          go_meet
          case rel => exact ⟨rfl, rfl, rfl, 2, 128, 159, by omega, by omega, by omega, rfl, rfl, rfl, HL.out⟩
        have h5 : ((s[i].toNat : Int) == 237) = false := by simp; omega
        by_cases c6 : s[i].toNat < 240
        · have HL := Lib.hid (lead_of s i 2 128 191 hlt (by omega) (by omega) (by simp [Lib.firstT, c0, c1, c2, c3, c4, c5, c6]) (by simp [Lib.firstT, Lib.accLo, c0, c1, c2, c3, c4, c5, c6]) (by simp [Lib.firstT, Lib.accHi, c0, c1, c2, c3, c4, c5, c6]))
          have e1 : (s[i].toNat : Int) ≤ 239 := by omega
          clear c0 c1 c2 c3 c4 c5 c6
          go_wp2
          go_meet
          case rel => exact ⟨rfl, rfl, rfl, 2, 128, 191, by omega, by omega, by omega, rfl, rfl, rfl, HL.out⟩
        have h6 : ¬ (s[i].toNat : Int) ≤ 239 := by omega
        have h7 : (240 : Int) ≤ (s[i].toNat : Int) := by omega
        by_cases c7 : s[i].toNat = 240
        · have HL := Lib.hid (lead_of s i 3 144 191 hlt (by omega) (by omega) (by rw [c7]; decide) (by rw [c7]; decide) (by rw [c7]; decide))
          have e1 : (s[i].toNat : Int) ≤ 244 := by omega
          have e2 : ((s[i].toNat : Int) == 240) = true := by simp; omega
          have e3 : ((s[i].toNat : Int) == 244) = false := by simp; omega
          clear c0 c1 c2 c3 c4 c5 c6 c7
          go_wp2
          go_meet
          case rel => exact ⟨rfl, rfl, rfl, 3, 144, 191, by omega, by omega, by omega, rfl, rfl, rfl, HL.out⟩
        have h8 : ((s[i].toNat : Int) == 240) = false := by simp; omega
        by_cases c8 : s[i].toNat < 244
        · have HL := Lib.hid (lead_of s i 3 128 191 hlt (by omega) (by omega) (by simp [Lib.firstT, c0, c1, c2, c3, c4, c5, c6, c7, c8]) (by simp [Lib.firstT, Lib.accLo, c0, c1, c2, c3, c4, c5, c6, c7, c8]) (by simp [Lib.firstT, Lib.accHi, c0, c1, c2, c3, c4, c5, c6, c7, c8]))
          have e1 : (s[i].toNat : Int) ≤ 244 := by omega
          have e3 : ((s[i].toNat : Int) == 244) = false := by simp; omega
          clear c0 c1 c2 c3 c4 c5 c6 c7 c8
          go_wp2
          go_meet
          case rel => exact ⟨rfl, rfl, rfl, 3, 128, 191, by omega, by omega, by omega, rfl, rfl, rfl, HL.out⟩
        by_cases c9 : s[i].toNat = 244
        · have HL := Lib.hid (lead_of s i 3 128 143 hlt (by omega) (by omega) (by rw [c9]; decide) (by rw [c9]; decide) (by rw [c9]; decide))
          have e1 : (s[i].toNat : Int) ≤ 244 := by omega
          have e3 : ((s[i].toNat : Int) == 244) = true := by simp; omega
          clear c0 c1 c2 c3 c4 c5 c6 c7 c8 c9
          go_wp2
          go_meet
          case rel => exact ⟨rfl, rfl, rfl, 3, 128, 143, by omega, by omega, by omega, rfl, rfl, rfl, HL.out⟩
        · have HL := Lib.hid (lead_bad s i hlt (by omega) (by simp [Lib.firstT, c0, c1, c2, c3, c4, c5, c6, c7, c8, c9]))
          have e1 : ¬ (s[i].toNat : Int) ≤ 244 := by omega
          clear c0 c1 c2 c3 c4 c5 c6 c7 c8 c9
          go_wp2
          go_ret
          exact ⟨ret_bool (by rw [HI.out, HL.out]), rfl⟩
      case rest =>
        obtain ⟨rfl, rfl, rfl, n, lo, hi', hn, hlo, hhi, rfl, rfl, rfl, HL⟩ := hcut
        go_wp2
        go_loop [5, 6, 8] (fun a5 a6 a8 => ∃ k lo' hi'' : Nat, 1 ≤ k ∧ k ≤ n + 1 ∧ lo' ≤ 255 ∧ hi'' ≤ 255 ∧ a5 = .int .u8 lo' ∧ a6 = .int .u8 hi'' ∧ a8 = .int .i64 k ∧ Hid (Cont s i n lo hi' k lo' hi'')) (fun _ _ a8 => 5 - (intOf a8).toNat)
        case atStart => exact ⟨1, lo, hi', by omega, by omega, hlo, hhi, rfl, rfl, rfl, rfl⟩
        case round =>
          obtain ⟨k, lo', hi'', hk1, hk2, hlo', hhi', rfl, rfl, rfl, HC⟩ := hrel
          by_cases hkn : k ≤ n
          · by_cases hend : s.size ≤ i + k
            · have H0 := Lib.hid (cont_short HC.out hkn hend)
              go_wp2
              go_ret
              exact ⟨ret_bool (by rw [HI.out, HL.out, H0.out, Bool.false_and]), rfl⟩
            · have hik : i + k < s.size := by omega
              have hx : ((i : Int) + (k : Int)).toNat = i + k := by omega
              have hbb : s[i + k].toNat ≤ 255 := by have := s[i + k].toNat_lt; omega
              have hik1 : (i : Int) + k < s.size := by omega
              by_cases b1 : s[i + k].toNat < lo'
              · have H0 := Lib.hid (cont_no HC.out hkn hik (.inl b1))
                have b1' : (s[i + k].toNat : Int) < (lo' : Int) := by omega
                clear b1 hend
                go_wp2
                go_ret
                exact ⟨ret_bool (by rw [HI.out, HL.out, H0.out, Bool.false_and]), rfl⟩
              by_cases b2 : hi'' < s[i + k].toNat
              · have H0 := Lib.hid (cont_no HC.out hkn hik (.inr b2))
                have b1' : ¬ (s[i + k].toNat : Int) < (lo' : Int) := by omega
                have b2' : (hi'' : Int) < (s[i + k].toNat : Int) := by omega
                clear b1 b2 hend
                go_wp2
                go_ret
                exact ⟨ret_bool (by rw [HI.out, HL.out, H0.out, Bool.false_and]), rfl⟩
              · have H0 := Lib.hid (cont_yes HC.out hkn hik ⟨by omega, by omega⟩)
                have b1' : ¬ (s[i + k].toNat : Int) < (lo' : Int) := by omega
                have b2' : ¬ (hi'' : Int) < (s[i + k].toNat : Int) := by omega
                clear b1 b2 hend
                go_wp2
                go_round
                case rel => exact ⟨k + 1, 128, 191, by omega, by omega, by omega, by omega, rfl, rfl, by go_num, H0.out⟩
                case measure => simp [intOf]; omega
          · obtain rfl : k = n + 1 := by omega
            have H0 := Lib.hid (cont_end HC.out)
            go_wp2
            go_round
            case rel => exact ⟨i + 1 + n, by omega, by go_num, by rw [Hid, HI.out, HL.out, H0.out, Bool.true_and]⟩
            case measure => simp [intOf]; omega
    · have H : Hid (Lib.validD s.data.toList = true) := by
        rw [Hid, HI.out, List.drop_eq_nil_of_le (by simpa using hlt)]; rfl
      go_wp2
      go_ret
      exact ⟨ret_bool (by rw [H.out]), rfl⟩
end
namespace y
open Go.ChangeShapes Go.WideShapes Go.ChangeAt Go.RowKit
attribute [local go_sem ↓] Go.wp_at_zero Go.wp_at_succ
variable {w : World}
def rlenF (l : List UInt8) : Nat := if Lib.validD (l.take (chLen l)) = true then chLen l else 0
theorem rlen_hit (l : List UInt8) (q : Nat) (h1 : 1 ≤ q) (h2 : q ≤ l.length) (h3 : q ≤ 4) (hq : Lib.validD (l.take q) = true) (hb : ∀ m, 1 ≤ m → m < q → Lib.validD (l.take m) = false) : rlenF l = q := by
  have hne : l ≠ [] := fun e => by subst e; simp at h2; omega
  have hcl := chLen_bd l hne
  unfold rlenF
  rcases len_math l hne with ⟨h4, h5⟩ | ⟨_, h5⟩
  · rw [if_pos h4]
    by_cases a : q < chLen l
    · rw [h5 q h1 a] at hq; cases hq
    by_cases b : chLen l < q
    · rw [hb _ hcl.1 b] at h4; cases h4
    · omega
  · rw [h5 q h1 h2 h3] at hq; cases hq
theorem rlen_none (l : List UInt8) (q : Nat) (hne : l ≠ []) (h : 4 < q ∨ l.length < q) (hb : ∀ m, 1 ≤ m → m < q → Lib.validD (l.take m) = false) : rlenF l = 0 := by
  have hcl := chLen_bd l hne
  unfold rlenF
  rw [hb _ hcl.1 (by omega)]
  rfl
theorem below_step (l : List UInt8) (q : Nat) (hb : ∀ m, 1 ≤ m → m < q → Lib.validD (l.take m) = false) (hq : Lib.validD (l.take q) = false) : ∀ m, 1 ≤ m → m < q + 1 → Lib.validD (l.take m) = false := fun m h1 h2 => by
  by_cases e : m = q
  · subst e; exact hq
  · exact hb m h1 (by omega)
theorem rlength_any (s : ByteArray) (at0 : Nat) (w : World) (hs : s.size ≤ 1000000) (ha : at0 < s.size) : Calls Tryz.prog 89 #[.string s, .int .i64 (at0 : Int)] w fun e w' => e = .returned (.int .i64 (rlenF (s.data.toList.drop at0) : Nat)) ∧ w = w' := by
  have hsz : s.data.toList.length = s.size := Array.length_toList
  have hll : (s.data.toList.drop at0).length = s.size - at0 := by rw [List.length_drop, hsz]
  have hne : s.data.toList.drop at0 ≠ [] := fun e => by rw [e] at hll; simp at hll; omega
  have HU : Hid (∀ (q : Nat) (W : World), at0 + q ≤ s.size → Calls Tryz.prog 87 #[.string (s.extract at0 (at0 + q))] W fun e w' => e = .returned (.bool (Lib.validD ((s.data.toList.drop at0).take q))) ∧ W = w') := fun q W h => by
    have k := utf8_any (s.extract at0 (at0 + q)) W (by rw [ByteArray.size_extract]; omega)
    rw [tx_extract, tx_toList, show at0 + q - at0 = q by omega] at k
    rw [tx_extract, show at0 + q - at0 = q by omega]
    exact k
  have HH := Lib.hid (fun q => rlen_hit (s.data.toList.drop at0) q)
  have HNO := Lib.hid (fun q => rlen_none (s.data.toList.drop at0) q hne)
  have HBS := Lib.hid (fun q => below_step (s.data.toList.drop at0) q)
  have HLL := Lib.hid hll
  clear hsz hll hne
  generalize s.data.toList.drop at0 = l at *
  go_enter Tryz.func89, Tryz.ntmps89
  go_wp2
  go_loop [5] (fun i => ∃ q : Nat, 1 ≤ q ∧ q ≤ 5 ∧ i = .int .i64 q ∧ Hid (∀ m, 1 ≤ m → m < q → Lib.validD (l.take m) = false)) (fun i => 5 - (intOf i).toNat)
  case atStart => exact ⟨1, by omega, by omega, rfl, fun m h1 h2 => by omega⟩
  case round =>
    obtain ⟨q, hq1, hq5, rfl, HB⟩ := hrel
    have hw : IntKind.i64.wrap ((at0 : Int) + (q : Int)) = (at0 : Int) + (q : Int) := IntWalk.i64_in _ (by omega)
    by_cases h4 : q ≤ 4
    · have g4 : (q : Int) ≤ 4 := by omega
      by_cases hin : at0 + q ≤ s.size
      · have gin : (at0 : Int) + (q : Int) ≤ (s.size : Int) := by omega
        have g0 : (0 : Int) ≤ (at0 : Int) ∧ (at0 : Int) ≤ (at0 : Int) + (q : Int) := ⟨by omega, by omega⟩
        have e1 : ((at0 : Int) + (q : Int)).toNat = at0 + q := by omega
        have HX := Lib.hid (HU.out q w hin)
        have HHQ := Lib.hid (HH.out q hq1 (by rw [HLL.out]; omega) h4)
        have HSQ := Lib.hid (HBS.out q HB.out)
        generalize Lib.validD (l.take q) = vb at *
        cases vb
        · have HB2 : Hid (∀ m, 1 ≤ m → m < q + 1 → Lib.validD (l.take m) = false) := HSQ.out rfl
          clear HHQ HSQ
          go_wp2_with fail
          refine HX.out.mono ?_
          rintro e w' ⟨rfl, rfl⟩
          go_wp2
          exact ⟨⟨q + 1, by omega, by omega, by go_num, HB2⟩, by simp [intOf]; omega⟩
        · have HR : Hid (rlenF l = q) := HHQ.out rfl HB.out
          clear HHQ HSQ
          go_wp2_with fail
          refine HX.out.mono ?_
          rintro e w' ⟨rfl, rfl⟩
          go_wp2
          go_ret
          exact ⟨by rw [HR.out]; rfl, rfl⟩
      · have gin : ¬ (at0 : Int) + (q : Int) ≤ (s.size : Int) := by omega
        have HR : Hid (rlenF l = 0) := HNO.out q (.inr (by rw [HLL.out]; omega)) HB.out
        go_wp2
        go_ret
        exact ⟨by rw [HR.out]; rfl, rfl⟩
    · have g4 : ¬ (q : Int) ≤ 4 := by omega
      have HR : Hid (rlenF l = 0) := HNO.out q (.inl (by omega)) HB.out
      go_wp2
      go_ret
      exact ⟨by rw [HR.out]; rfl, rfl⟩
end y
namespace y
open Go.Lib (index cut trimB trimLeftB trimRightB hasPrefix trimPrefix)
theorem u8_iff (c : UInt8) (n : Nat) (hn : n < 256) : c = UInt8.ofNat n ↔ c.toNat = n := by
  constructor
  · rintro rfl
    rw [UInt8.toNat_ofNat']; omega
  · intro h
    apply UInt8.toNat_inj.1
    rw [UInt8.toNat_ofNat']; omega
theorem is32 (c : UInt8) : c = 32 ↔ c.toNat = 32 := u8_iff c 32 (by decide)
theorem is58 (c : UInt8) : c = 58 ↔ c.toNat = 58 := u8_iff c 58 (by decide)
theorem pre_colon (c : UInt8) (r : List UInt8) : ([58, 32] : List UInt8).isPrefixOf (c :: (r ++ [32])) = decide (c.toNat = 58 ∧ endB r = true) := by
  have e1 : ((58 : UInt8) == c) = decide (c.toNat = 58) := by
    rw [Bool.eq_iff_iff]
    simp only [beq_iff_eq, decide_eq_true_eq]
    rw [← is58]; exact eq_comm
  cases r with
  | nil =>
    simp only [List.nil_append, List.isPrefixOf, endB, e1]
    simp
  | cons d t =>
    have e2 : ((32 : UInt8) == d) = decide (d.toNat = 32) := by
      rw [Bool.eq_iff_iff]
      simp only [beq_iff_eq, decide_eq_true_eq]
      rw [← is32]; exact eq_comm
    simp only [List.cons_append, List.isPrefixOf, endB, e1, e2]
    rw [Bool.eq_iff_iff]
    simp
theorem index_colon : ∀ l : List UInt8, index (l ++ [32]) [58, 32] = match colon l with | none => -1 | some i => (i : Int)
  | [] => by decide
  | c :: r => by
    rw [List.cons_append, index, pre_colon, index_colon r, colon]
    by_cases h : c.toNat = 58 ∧ endB r = true
    · rw [if_pos h]; simp [h]
    · rw [if_neg h]
      simp only [h, decide_false, Bool.false_eq_true, if_false]
      cases colon r with
      | none => rfl
      | some i =>
        simp only [Option.map_some]
        have : ¬ ((i : Int) == -1) = true := by simp
        rw [if_neg this]
        push_cast; rfl
theorem colon_some : ∀ (l : List UInt8) (i : Nat), colon l = some i → i < l.length ∧ endB (l.drop (i + 1)) = true
  | [], i, h => by cases h
  | c :: r, i, h => by
    rw [colon] at h
    split at h
    · rename_i hc
      cases h
      exact ⟨by simp, hc.2⟩
    · cases hr : colon r with
      | none => rw [hr] at h; cases h
      | some j =>
        rw [hr] at h
        cases h
        obtain ⟨h1, h2⟩ := colon_some r j hr
        exact ⟨by simp; omega, h2⟩
def Trimmed (l : List UInt8) : Prop := l.getLast? ≠ some 32
theorem Trimmed.drop {l : List UInt8} (h : Trimmed l) (k : Nat) : Trimmed (l.drop k) := by
  unfold Trimmed at *
  rw [List.getLast?_drop]
  split
  · simp
  · exact h
theorem lead_eq (l : List UInt8) : lead l = trimLeftB l 32 := by
  unfold lead blanks trimLeftB
  induction l with
  | nil => rfl
  | cons c r ih =>
    simp only [List.takeWhile_cons, List.dropWhile_cons]
    split
    · simpa using ih
    · rfl
theorem trimR_blank (l : List UInt8) (h : Trimmed l) : trimRightB (l ++ [32]) 32 = l := by
  unfold trimRightB
  rw [List.reverse_append]
  rcases List.eq_nil_or_concat l with rfl | ⟨a, c, rfl⟩
  · rfl
  · have hc : (c == 32) = false := by
      unfold Trimmed at h
      simpa using h
    simp [hc]
theorem trim_blank (l : List UInt8) (h : Trimmed l) : trimB (l ++ [32]) 32 = lead l := by
  unfold trimB
  rw [trimR_blank l h, lead_eq]
theorem trim_behind (r : List UInt8) (he : endB r = true) (h : Trimmed r) : trimB ((r ++ [32]).drop 1) 32 = lead r := by
  cases r with
  | nil => rfl
  | cons c t =>
    have hc : c = 32 := (is32 c).2 (of_decide_eq_true he)
    subst hc
    show trimB (t ++ [32]) 32 = _
    rw [trim_blank t (h.drop 1), lead_eq, lead_eq]
    rfl
theorem cut_none (l : List UInt8) (h : colon l = none) : (cut (l ++ [32]) [58, 32]).2.2 = false := by
  unfold cut
  rw [index_colon, h]
  rfl
theorem cut_some (l : List UInt8) (i : Nat) (h : colon l = some i) : cut (l ++ [32]) [58, 32] = (l.take i, (l.drop (i + 1) ++ [32]).drop 1, true) := by
  obtain ⟨h1, _⟩ := colon_some l i h
  unfold cut
  rw [index_colon, h]
  show (if 0 ≤ (i : Int) then _ else _) = _
  rw [if_pos (by omega)]
  have e1 : (l ++ [32]).take i = l.take i := List.take_append_of_le_length (by omega)
  have e2 : (l ++ [32]).drop (i + 2) = (l.drop (i + 1) ++ [32]).drop 1 := by
    rw [← List.drop_append_of_le_length (by omega), List.drop_drop]
  simp only [Int.toNat_natCast, List.length_cons, List.length_nil, e1, e2]
theorem pre_rest (c : UInt8) (r : List UInt8) : hasPrefix (c :: r ++ [32]) [58, 32] = decide (c.toNat = 58 ∧ endB r = true) := pre_colon c r
theorem pre_cut (c : UInt8) (r : List UInt8) (h : c.toNat = 58 ∧ endB r = true) : trimPrefix (c :: r ++ [32]) [58, 32] = (r ++ [32]).drop 1 := by
  unfold trimPrefix
  rw [if_pos (by rw [pre_rest]; exact decide_eq_true h)]
  rfl
end y
end Go.Proofs.YtcljplkkgpjhlaaGreatDoorR
