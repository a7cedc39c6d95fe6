/-
  Package ylines: blanks, dashes, what may stand in a line; strings.Cut at a line feed.
-/
import Derived.Test.YtmenbgdkokegaaaDoorLines
import Derived.Test.YtmenbgdkokegaaaDoorShelf
import Derived.BigQuiet
import Derived.Shelf.RegionOpen
namespace Go.Proofs.YtmenbgdkokegaaaDoor
open Go.ChangeShapes Go.WideShapes Go.ChangeAt Go.RowKit
attribute [local go_sem ↓] Go.wp_at_zero Go.wp_at_succ
variable {w : World}

theorem trimL_any (l : List UInt8) (w : World) : Calls Tryd.prog 34 #[.string (tx l), .string ⟨#[32]⟩] w fun e w' => e = .returned (.string (tx (Lib.trimLeftB l 32))) ∧ w = w' := by
  refine (Any.strings_TrimLeft_one Tryd.laysTrimL (tx l) 32 (by decide) w).mono ?_
  rintro e w' ⟨h1, h2⟩
  rw [tx_toList] at h1
  exact ⟨h1, h2.symm⟩
theorem trimR_any (s : ByteArray) (w : World) (hs : s.size ≤ 1000000) : Calls Tryd.prog 20 #[.string s, .string ⟨#[32]⟩] w fun e w' => e = .returned (.string (tx (Lib.trimRightB s.data.toList 32))) ∧ w = w' := by
  refine (Any.strings_TrimRight_one Tryd.laysTrimR s 32 (by decide) w (by omega)).mono ?_
  rintro e w' ⟨h1, h2⟩
  exact ⟨h1, h2.symm⟩
theorem hasPre_any (l p : List UInt8) (w : World) : Calls Tryd.prog 35 #[.string (tx l), .string (tx p)] w fun e w' => e = .returned (.bool (p.isPrefixOf l)) ∧ w = w' := by
  refine (Any.strings_HasPrefix Tryd.laysHas (tx l) (tx p) w).mono ?_
  rintro e w' ⟨h1, h2⟩
  rw [tx_toList, tx_toList] at h1
  exact ⟨h1, h2.symm⟩
theorem past_any (l : List UInt8) (a : Nat) (w : World) (ha : a ≤ l.length) (hs : l.length ≤ 1000000) : Calls Tryd.prog 21 #[.string (tx l), .int .i64 (a : Int)] w fun e w' => e = .returned (.int .i64 ((a + blanks (l.drop a) : Nat) : Int)) ∧ w = w' := by
  have hsz := tx_size l
  have HT := Lib.hid (fun W => trimL_any (l.drop a) W)
  have HE : Hid ((tx l).extract a (tx l).size = tx (l.drop a)) := by
    rw [Hid, tx_extract, tx_toList, hsz]
    congr 1
    rw [List.take_of_length_le (by simp)]
  have hz : (tx (Lib.trimLeftB (l.drop a) 32)).size = l.length - a - blanks (l.drop a) := by
    rw [tx_size, trimLeft_len, List.length_drop]
  have hb := blanks_le (l.drop a)
  rw [List.length_drop] at hb
  have q0 := HE.out
  obtain ⟨b, hbb⟩ : ∃ b, b = blanks (l.drop a) := ⟨_, rfl⟩
  rw [← hbb] at hz hb ⊢
  have ha' : a ≤ (tx l).size := by omega
  have HSZ := Lib.hid hsz
  have HZ := Lib.hid hz
  have HR : Hid (((tx l).size : Int) - ((tx (Lib.trimLeftB (l.drop a) 32)).size : Int) = ((a + b : Nat) : Int)) := by
    rw [Hid, hsz, hz]; omega
  have hw : wrap64 (((tx l).size : Int) - ((tx (Lib.trimLeftB (l.drop a) 32)).size : Int)) = ((a + b : Nat) : Int) := by
    rw [HR.out]; unfold wrap64; omega
  have hs2 : (tx l).size ≤ 1000000 := by omega
  clear hsz hz hbb
  generalize tx (Lib.trimLeftB (l.drop a) 32) = r at *
  generalize tx (l.drop a) = d at *
  generalize tx l = s at *
  have hr : r.size ≤ s.size := by rw [HZ.out, HSZ.out]; omega
  have HW := Lib.hid hw
  clear hw HE
  go_enter Tryd.func21, Tryd.ntmps21
  go_wp2_with (go_at_call 34; refine (HT.out _).mono ?_; rintro e w' ⟨rfl, rfl⟩)
  go_ret
  refine ⟨?_, rfl⟩
  show Ending.returned (.int .i64 _) = _
  exact ret_int HR.out
theorem isDash_any (l : List UInt8) (w : World) : Calls Tryd.prog 22 #[.string (tx l)] w fun e w' => e = .returned (.bool (dashB l)) ∧ w = w' := by
  have HP := Lib.hid (fun W => hasPre_any l [45, 32] W)
  by_cases h : l = [45]
  · subst h
    have e0 : (tx [45]).toList = [45] := by rw [Lib.toList_data, tx_toList]
    clear HP
    go_enter Tryd.func22, Tryd.ntmps22
    go_wp2
    go_ret
    exact ⟨rfl, rfl⟩
  · have hd : dashB l = [45, 32].isPrefixOf l := by
      unfold dashB
      rw [show (l == [45]) = false by simpa using h]; rfl
    have hne : ((tx l).toList == [45]) = false := by
      rw [Lib.toList_data, tx_toList]; simpa using h
    have hne2 : ((45 : UInt8) :: [] == (tx l).toList) = false := by
      rw [Lib.toList_data, tx_toList]; simpa using fun e => h e.symm
    rw [hd]
    clear hd h
    generalize tx l = s at *
    go_enter Tryd.func22, Tryd.ntmps22
    go_wp2_with (go_at_call 35; refine (HP.out _).mono ?_; rintro e w' ⟨rfl, rfl⟩)
    go_ret
    exact ⟨rfl, rfl⟩
theorem valid19_any (s : ByteArray) (w : World) (hs : s.size ≤ 1000000) (hT : Lib.Utf8Tabs (Tryd.laysValid_ren.g 3) (Tryd.laysValid_ren.g 4) w) : Calls Tryd.prog 19 #[.string s] w fun e w' => e = .returned (.bool (Lib.validD s.data.toList)) ∧ Fresh w w' := by
  have H := Lib.hid ((Any.utf8_ValidString Tryd.laysValid s w (by omega) hT).mono (fun e w' h => h))
  clear hT
  go_enter Tryd.func19, Tryd.ntmps19
  go_wp2_with fail
  refine H.out.mono ?_
  rintro e w' ⟨rfl, hf⟩
  have HF := Lib.hid hf
  clear hf
  go_wp2
  go_ret
  exact ⟨rfl, HF.out⟩
end Go.Proofs.YtmenbgdkokegaaaDoor
