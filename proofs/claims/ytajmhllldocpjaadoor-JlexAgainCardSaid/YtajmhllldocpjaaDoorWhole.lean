/-
  Package jlex's Whole, and the document's.
-/
import Derived.Test.YtajmhllldocpjaaDoorAhead
import Derived.Test.YtajmhllldocpjaaDoorRead2
namespace Go.Proofs.YtajmhllldocpjaaDoor
open Go.ChangeShapes Go.WideShapes Go.ChangeAt Go.RowKit
attribute [local go_sem ↓] Go.wp_at_zero Go.wp_at_succ
variable {w : World}

/-- The library's error of a number that is too great stands in its variable. -/
def RangeVar (w : World) : Prop := ∃ tp p, w.var? Tryd.prog "strconv.ErrRange" = some #[.iface tp p]
theorem RangeVar.move {w w' : World} (h : RangeVar w) (f : Fresh w w') : RangeVar w' := by
  obtain ⟨tp, p, h⟩ := h
  refine ⟨tp, p, ?_⟩
  unfold World.var? at h ⊢
  cases hg : Tryd.prog.globalNamed "strconv.ErrRange" with
  | none => simp [hg] at h
  | some g =>
    simp only [hg, Option.bind_some] at h ⊢
    have hlt : g < w.heap.size := by
      rcases Nat.lt_or_ge g w.heap.size with h' | h'
      · exact h'
      · simp [Array.getElem?_eq_none h'] at h
    rw [f.block g hlt]
    exact h
theorem trim_any (s : ByteArray) (w : World) : Calls Tryd.prog 12 #[.string s, .string ⟨#[45]⟩] w fun e w' => e = .returned (.string (bs (behind s.data.toList))) ∧ w = w' := by
  refine (Any.strings_TrimPrefix Tryd.laysTrim s ⟨#[45]⟩ w).mono ?_
  rintro e w' ⟨h1, h2⟩
  exact ⟨h1, h2.symm⟩
theorem parse_yes (s : ByteArray) (w : World) (hs : s.size ≤ 9000000) (hd : digits (behind s.data.toList) = true) (hm : num (behind s.data.toList) ≤ most s.data.toList) :
    Calls Tryd.prog 15 #[.string s, .int .i64 10, .int .i64 64] w fun e w' => e = .returned (.tuple #[.int .i64 (wholeV s.data.toList), .nilIface]) ∧ Fresh w w' := by
  have hp := parse_digits _ hd
  have hw : wholeV s.data.toList = if minus s.data.toList = true then -(num (behind s.data.toList) : Int) else (num (behind s.data.toList) : Int) := by rw [wholeV, if_pos ⟨hd, hm⟩]
  rw [if_pos hm, ← hw] at hp
  clear hw
  generalize wholeV s.data.toList = v at *
  refine (Any.strconv_ParseInt_10_at64_ok Tryd.laysInt s (by omega) _ hp w).mono ?_
  rintro e w' ⟨h1, h2⟩
  refine ⟨h1, ?_⟩
  rcases h2 with rfl | ⟨t, rfl⟩
  · exact Fresh.refl _
  · exact Lib.bytesWorld_below ..
theorem parse_no (s : ByteArray) (w : World) (hs : s.size ≤ 9000000) (hr : RangeVar w) (hd : digits (behind s.data.toList) = true) (hm : ¬ num (behind s.data.toList) ≤ most s.data.toList) :
    Calls Tryd.prog 15 #[.string s, .int .i64 10, .int .i64 64] w fun e w' => (∃ x t p, e = .returned (.tuple #[.int .i64 x, .iface t (.pointer (some p))])) ∧ Fresh w w' := by
  have hp := parse_digits _ hd
  rw [if_neg hm] at hp
  obtain ⟨tp, p, hv⟩ := hr
  refine (Any.strconv_ParseInt_10_at64_range_var Tryd.laysInt s (by omega) hp tp p w hv).mono ?_
  rintro e w' ⟨N, h1, _, _, h2⟩
  exact ⟨⟨_, _, _, h1⟩, h2⟩
theorem bs_size_of (l : List UInt8) : (bs l).data.toList = l := bs_toList l
set_option maxRecDepth 100000 in
set_option maxHeartbeats 1000000 in
theorem whole_any (s : ByteArray) (w : World) (hs : s.size ≤ 9000000) (hr : RangeVar w) :
    Calls Tryd.prog 6 #[.string s] w fun e w' => e = .returned (.tuple #[.int .i64 (wholeV s.data.toList), .int .i64 (wholeE s.data.toList)]) ∧ Fresh w w' := by
  have HT := Lib.hid (fun W => trim_any s W)
  have HR := Lib.hid hr
  have HP1 := Lib.hid (fun W => parse_yes s W hs)
  have HP2 := Lib.hid (fun W => parse_no s W hs)
  have hbl : (behind s.data.toList).length ≤ 9000000 := by
    have h1 : (behind s.data.toList).length ≤ s.data.toList.length := by
      unfold behind Lib.trimPrefix
      split
      · simp
      · exact Nat.le_refl _
    have h2 : s.data.toList.length = s.size := by simp
    omega
  cases hd : digits (behind s.data.toList) with
  | true =>
    have HD : Hid (digits (behind s.data.toList) = true) := hd
    obtain ⟨d0, d1, d2⟩ := (digits_iff _).1 hd
    have hc := (cnt_all digB _).1 d1
    have HA := Lib.hid (fun W => ahead_digit (bs (behind s.data.toList)) W (by rw [bs_size]; exact hbl))
    rw [bs_toList, hc] at HA
    have HW : Hid (wholeE s.data.toList = if num (behind s.data.toList) ≤ most s.data.toList then 0 else 7) := by rw [Hid, wholeE, if_pos hd]
    have HV0 : Hid (¬ num (behind s.data.toList) ≤ most s.data.toList → wholeV s.data.toList = 0) := fun h => by rw [wholeV, if_neg (fun e => h e.2)]
    rcases hb : behind s.data.toList with _ | ⟨c, r⟩
    · exact absurd hb d0
    rw [hb] at HA HT d2
    have hsz := bs_size (c :: r)
    obtain ⟨p1, p2, _, p4⟩ := bs_cons c r
    by_cases h48 : c.toNat = 48
    · have hr0 : c :: r = [48] := by
        rcases d2 with d2 | d2
        · exact absurd (by rw [List.head?_cons, (UInt8.toNat_inj.1 h48 : c = 48)]) d2
        · exact d2
      have hm : num (behind s.data.toList) ≤ most s.data.toList := by
        have e0 : num (behind s.data.toList) = 0 := by rw [hb, hr0]; rfl
        omega
      have HX : Hid (wholeE s.data.toList = 0) := by rw [Hid, HW.out, if_pos hm]
      have HP := Lib.hid (fun W => HP1.out W HD.out hm)
      rw [hr0] at HT HA
      have e1 : bs [48] = ⟨#[48]⟩ := rfl
      rw [e1] at HT HA
      clear HP1 HP2 HW HV0 hm hr0 h48 hsz p1 p2 p4 d0 d1 d2 hb hd HD hc hbl e1
      generalize wholeV s.data.toList = v at *
      generalize wholeE s.data.toList = x at *
      go_enter Tryd.func6, Tryd.ntmps6
      go_wp2_with fail
      refine (HT.out _).mono ?_
      rintro e w' ⟨rfl, rfl⟩
      go_wp2_with fail
      refine (HA.out _).mono ?_
      rintro e w' ⟨rfl, rfl⟩
      go_wp2_with fail
      refine (HP.out _).mono ?_
      rintro e w1 ⟨rfl, hf1⟩
      have HF1 := Lib.hid hf1
      clear hf1
      go_wp2
      go_ret2
      exact ⟨by rw [HX.out]; rfl, HF1.out⟩
    · have e48 : ((c.toNat : Int) == 48) = false := by rw [beq_eq_false_iff_ne]; omega
      generalize bs (c :: r) = d at *
      have hlen : (c :: r).length = d.size := hsz.symm
      rw [hlen] at HA
      clear hsz hlen hbl hc d0 d1 d2 h48 hd
      by_cases hm : num (behind s.data.toList) ≤ most s.data.toList
      · have HX : Hid (wholeE s.data.toList = 0) := by rw [Hid, HW.out, if_pos hm]
        have HP := Lib.hid (fun W => HP1.out W HD.out hm)
        clear HP1 HP2 HW HV0 hm
        generalize wholeV s.data.toList = v at *
        generalize wholeE s.data.toList = x at *
        go_enter Tryd.func6, Tryd.ntmps6
        go_wp2_with fail
        refine (HT.out _).mono ?_
        rintro e w' ⟨rfl, rfl⟩
        go_wp2_with fail
        refine (HA.out _).mono ?_
        rintro e w' ⟨rfl, rfl⟩
        go_wp2_with fail
        refine (HP.out _).mono ?_
        rintro e w1 ⟨rfl, hf1⟩
        have HF1 := Lib.hid hf1
        clear hf1
        go_wp2
        go_ret2
        exact ⟨by rw [HX.out]; rfl, HF1.out⟩
      · have HX : Hid (wholeE s.data.toList = 7) := by rw [Hid, HW.out, if_neg hm]
        have HV := Lib.hid (HV0.out hm)
        have HP := Lib.hid (fun W h => HP2.out W h HD.out hm)
        clear HP1 HP2 HW HV0 hm
        generalize wholeV s.data.toList = v at *
        generalize wholeE s.data.toList = x at *
        go_enter Tryd.func6, Tryd.ntmps6
        go_wp2_with fail
        refine (HT.out _).mono ?_
        rintro e w' ⟨rfl, rfl⟩
        go_wp2_with fail
        refine (HA.out _).mono ?_
        rintro e w' ⟨rfl, rfl⟩
        go_wp2_with fail
        refine (HP.out _ HR.out).mono ?_
        rintro e w1 ⟨⟨y, t, p, rfl⟩, hf1⟩
        have HF1 := Lib.hid hf1
        clear hf1
        go_wp2
        go_ret2
        exact ⟨by rw [HX.out, HV.out]; rfl, HF1.out⟩
  | false =>
    have HX : Hid (wholeE s.data.toList = 12) := by rw [Hid, wholeE, if_neg (by rw [hd]; simp)]
    have HV : Hid (wholeV s.data.toList = 0) := by rw [Hid, wholeV, if_neg (by rw [hd]; simp)]
    have hn : ¬ (behind s.data.toList ≠ [] ∧ cnt digB (behind s.data.toList) = (behind s.data.toList).length ∧ ((behind s.data.toList).head? ≠ some 48 ∨ behind s.data.toList = [48])) := of_decide_eq_false hd
    have HA := Lib.hid (fun W => ahead_digit (bs (behind s.data.toList)) W (by rw [bs_size]; exact hbl))
    have hle := cnt_le digB (behind s.data.toList)
    rw [bs_toList] at HA
    clear hd HP1 HP2
    generalize behind s.data.toList = ds at *
    generalize wholeV s.data.toList = v at *
    generalize wholeE s.data.toList = x at *
    rcases ds with _ | ⟨c, r⟩
    · have e1 : bs [] = ⟨#[]⟩ := rfl
      rw [e1] at HT
      clear e1 hn hle hbl HA
      go_enter Tryd.func6, Tryd.ntmps6
      go_wp2_with fail
      refine (HT.out _).mono ?_
      rintro e w' ⟨rfl, rfl⟩
      go_wp2
      go_ret2
      exact ⟨by rw [HX.out, HV.out]; rfl, Fresh.refl _⟩
    · have hsz := bs_size (c :: r)
      obtain ⟨p1, p2, _, p4⟩ := bs_cons c r
      by_cases hc : cnt digB (c :: r) = (c :: r).length
      · have h48 : c = 48 ∧ r ≠ [] := by
          by_cases e : c = 48
          · refine ⟨e, ?_⟩
            rintro rfl
            subst e
            exact hn ⟨by simp, hc, .inr rfl⟩
          · exact absurd ⟨by simp, hc, .inl (by simpa using e)⟩ hn
        obtain ⟨rfl, hr⟩ := h48
        have q1 : ((bs (48 :: r)).toList == [48]) = false := by
          rw [Lib.toList_data, bs_toList]; simpa using hr
        have q2 : (bs (48 :: r)).toList ≠ [48] := by
          rw [Lib.toList_data, bs_toList]; simpa using hr
        rw [hc] at HA
        generalize bs (48 :: r) = d at *
        have hlen : ((48 : UInt8) :: r).length = d.size := hsz.symm
        rw [hlen] at HA
        clear hsz hlen hbl hc hn hle hr
        go_enter Tryd.func6, Tryd.ntmps6
        go_wp2_with fail
        refine (HT.out _).mono ?_
        rintro e w' ⟨rfl, rfl⟩
        go_wp2_with fail
        refine (HA.out _).mono ?_
        rintro e w' ⟨rfl, rfl⟩
        go_wp2
        go_ret2
        exact ⟨by rw [HX.out, HV.out]; rfl, Fresh.refl _⟩
      · have hlt : cnt digB (c :: r) < (bs (c :: r)).size := by rw [hsz]; omega
        generalize bs (c :: r) = d at *
        generalize cnt digB (c :: r) = n at *
        clear hsz hbl hn hle hc
        go_enter Tryd.func6, Tryd.ntmps6
        go_wp2_with fail
        refine (HT.out _).mono ?_
        rintro e w' ⟨rfl, rfl⟩
        go_wp2_with fail
        refine (HA.out _).mono ?_
        rintro e w' ⟨rfl, rfl⟩
        go_wp2
        go_ret2
        exact ⟨by rw [HX.out, HV.out]; rfl, Fresh.refl _⟩
end Go.Proofs.YtajmhllldocpjaaDoor
