/-
  The document's labels, variables' and images' names.
  The document's Label, Variable and Image.
  The document's Variable and Image.
  The document's cut at points, and its Name.
  Of valid UTF-8: bytes behind a lead byte.
-/
import Derived.Test.YtldncgelghcjeaaGreatDoorCat01
import Derived.Deep.DrawnRows
import Derived.Test.YtldncgelghcjeaaGreatDoorCat02
import Derived.Deep.QuietTactic
import Derived.BigQuiet
import Derived.Maps.AppendAt
import Derived.RangeFuncBox
import Derived.Test.YtldncgelghcjeaaGreatDoorCat09
set_option linter.unusedSimpArgs false
set_option linter.unusedVariables false
namespace Go.Proofs.YtldncgelghcjeaaGreatDoor
open Go.ChangeShapes Go.WideShapes Go.ChangeAt Go.RowKit

/-- Is a byte one of these? -/
def oneOf (b : UInt8) (l : List UInt8) : Bool := l.any fun c => decide (c = b)
theorem u8_eq (a b : UInt8) : decide (a = b) = ((a.toNat : Int) == (b.toNat : Int)) := by
  rw [Bool.eq_iff_iff]
  simp only [decide_eq_true_eq, beq_iff_eq, ← UInt8.toNat_inj]
  omega
set_option maxRecDepth 100000 in
theorem rin_any (b : UInt8) (s : ByteArray) (w : World) (hs : s.size ≤ 4000000) : Calls Tryz.prog 115 #[.int .u8 (b.toNat : Int), .string s] w fun e w' => e = .returned (.bool (oneOf b s.data.toList)) ∧ w = w' := by
  have HSZ : Hid (s.data.toList.length = s.size) := by rw [Hid]; simp
  go_enter Tryz.func115, Tryz.ntmps115
  go_wp2
  go_loopw [5] (fun a5 wr => ∃ (k : Nat), a5 = .int .i64 (k : Int) ∧ k ≤ s.size ∧ w = wr ∧ Hid (∀ c ∈ s.data.toList.take k, decide (c = b) = false)) (fun a5 _ => s.size - (intOf a5).toNat)
  case atStart => exact ⟨0, rfl, Nat.zero_le _, rfl, by simp [Hid]⟩
  case round =>
    obtain ⟨k, rfl, hk, rfl, HA⟩ := hrel
    by_cases hlt : k < s.size
    · have HG : Hid (s.data.toList[k]? = some s[k]) := by rw [Hid, List.getElem?_eq_getElem (by rw [HSZ.out]; exact hlt)]; rfl
      have HT := Lib.hid (take_snoc s k hlt)
      have HE := Lib.hid (u8_eq s[k] b)
      by_cases hp : (s[k].toNat : Int) = (b.toNat : Int)
      · have HR : Hid (oneOf b s.data.toList = true) := by
          rw [Hid, oneOf, List.any_eq_true]
          exact ⟨s[k], List.mem_of_getElem? HG.out, by rw [HE.out, beq_iff_eq]; exact hp⟩
        go_wp2
        all_goals try (exfalso; omega)
        go_ret
        exact ⟨ret_bool HR.out.symm, rfl⟩
      · have HN : Hid (∀ c ∈ s.data.toList.take (k + 1), decide (c = b) = false) := by
          rw [Hid, HT.out]
          intro c hc
          rcases List.mem_append.1 hc with h | h
          · exact HA.out c h
          · rw [List.mem_singleton.1 h, HE.out, beq_eq_false_iff_ne]; exact hp
        go_wp2
        all_goals try (exfalso; omega)
        go_roundw
        case rel => exact ⟨k + 1, by simp, by omega, by trivial, HN.out⟩
        case measure => simp [intOf]; omega
    · obtain rfl : k = s.size := by omega
      have HR : Hid (oneOf b s.data.toList = false) := by
        rw [Hid, oneOf, List.any_eq_false]
        intro c hc
        have := HA.out c (by rw [← HSZ.out, List.take_length]; exact hc)
        rw [this]; simp
      go_wp2
      all_goals try (exfalso; omega)
      go_ret
      exact ⟨ret_bool HR.out.symm, rfl⟩
set_option maxRecDepth 100000 in
theorem rall_any (s t : ByteArray) (w : World) (hs : s.size ≤ 4000000) (ht : t.size ≤ 4000000) : Calls Tryz.prog 111 #[.string s, .string t] w fun e w' => e = .returned (.bool (s.data.toList.all fun c => oneOf c t.data.toList)) ∧ w = w' := by
  have HP := Lib.hid (fun c W => rin_any c t W ht)
  have HSZ : Hid (s.data.toList.length = s.size) := by rw [Hid]; simp
  go_enter Tryz.func111, Tryz.ntmps111
  go_wp2
  go_loopw [5] (fun a5 wr => ∃ (k : Nat), a5 = .int .i64 (k : Int) ∧ k ≤ s.size ∧ w = wr ∧ Hid (∀ c ∈ s.data.toList.take k, oneOf c t.data.toList = true)) (fun a5 _ => s.size - (intOf a5).toNat)
  case atStart => exact ⟨0, rfl, Nat.zero_le _, rfl, by simp [Hid]⟩
  case round =>
    obtain ⟨k, rfl, hk, rfl, HA⟩ := hrel
    by_cases hlt : k < s.size
    · have HG : Hid (s.data.toList[k]? = some s[k]) := by rw [Hid, List.getElem?_eq_getElem (by rw [HSZ.out]; exact hlt)]; rfl
      have HT := Lib.hid (take_snoc s k hlt)
      have HC := Lib.hid (fun W => HP.out s[k] W)
      cases hp : oneOf s[k] t.data.toList with
      | false =>
        rw [hp] at HC
        have HR : Hid ((s.data.toList.all fun c => oneOf c t.data.toList) = false) := by
          rw [Hid, Bool.eq_false_iff]
          intro h
          have := List.all_eq_true.1 h s[k] (List.mem_of_getElem? HG.out)
          rw [hp] at this; cases this
        clear hp
        go_wp2_with (go_at_call 115; refine (HC.out _).mono ?_; rintro e w' ⟨rfl, rfl⟩)
        all_goals try (exfalso; omega)
        go_ret
        exact ⟨ret_bool HR.out.symm, rfl⟩
      | true =>
        rw [hp] at HC
        have HN : Hid (∀ c ∈ s.data.toList.take (k + 1), oneOf c t.data.toList = true) := by
          rw [Hid, HT.out]
          intro c hc
          rcases List.mem_append.1 hc with h | h
          · exact HA.out c h
          · rw [List.mem_singleton.1 h]; exact hp
        clear hp
        go_wp2_with (go_at_call 115; refine (HC.out _).mono ?_; rintro e w' ⟨rfl, rfl⟩)
        all_goals try (exfalso; omega)
        go_roundw
        case rel => exact ⟨k + 1, by simp, by omega, by trivial, HN.out⟩
        case measure => simp [intOf]; omega
    · obtain rfl : k = s.size := by omega
      have HR : Hid ((s.data.toList.all fun c => oneOf c t.data.toList) = true) := by
        rw [Hid, List.all_eq_true]
        intro c hc
        exact HA.out c (by rw [← HSZ.out, List.take_length]; exact hc)
      go_wp2
      all_goals try (exfalso; omega)
      go_ret
      exact ⟨ret_bool HR.out.symm, rfl⟩

/-! ### which bytes -/
def smallS : ByteArray := ⟨#[97, 98, 99, 100, 101, 102, 103, 104, 105, 106, 107, 108, 109, 110, 111, 112, 113, 114, 115, 116, 117, 118, 119, 120, 121, 122]⟩
def greatS : ByteArray := ⟨#[65, 66, 67, 68, 69, 70, 71, 72, 73, 74, 75, 76, 77, 78, 79, 80, 81, 82, 83, 84, 85, 86, 87, 88, 89, 90]⟩
def digitS : ByteArray := ⟨#[48, 49, 50, 51, 52, 53, 54, 55, 56, 57]⟩
theorem rsmall_any (w : World) : Calls Tryz.prog 112 #[] w fun e w' => e = .returned (.string smallS) ∧ w = w' := by
  go_enter Tryz.func112, Tryz.ntmps112
  go_wp2
  go_ret
  exact ⟨rfl, rfl⟩
theorem rgreat_any (w : World) : Calls Tryz.prog 113 #[] w fun e w' => e = .returned (.string greatS) ∧ w = w' := by
  go_enter Tryz.func113, Tryz.ntmps113
  go_wp2
  go_ret
  exact ⟨rfl, rfl⟩
theorem rdigits_any (w : World) : Calls Tryz.prog 114 #[] w fun e w' => e = .returned (.string digitS) ∧ w = w' := by
  go_enter Tryz.func114, Tryz.ntmps114
  go_wp2
  go_ret
  exact ⟨rfl, rfl⟩
theorem all_u8 (p : UInt8 → Bool) (h : (List.range 256).all (fun n => p (UInt8.ofNat n)) = true) (c : UInt8) : p c = true := by
  have := List.all_eq_true.1 h c.toNat (List.mem_range.2 c.toNat_lt)
  simpa using this
def labS : ByteArray := ⟨#[97, 98, 99, 100, 101, 102, 103, 104, 105, 106, 107, 108, 109, 110, 111, 112, 113, 114, 115, 116, 117, 118, 119, 120, 121, 122, 48, 49, 50, 51, 52, 53, 54, 55, 56, 57, 45]⟩
def varS : ByteArray := ⟨#[97, 98, 99, 100, 101, 102, 103, 104, 105, 106, 107, 108, 109, 110, 111, 112, 113, 114, 115, 116, 117, 118, 119, 120, 121, 122, 65, 66, 67, 68, 69, 70, 71, 72, 73, 74, 75, 76, 77, 78, 79, 80, 81, 82, 83, 84, 85, 86, 87, 88, 89, 90, 48, 49, 50, 51, 52, 53, 54, 55, 56, 57, 95]⟩
def imgS : ByteArray := ⟨#[97, 98, 99, 100, 101, 102, 103, 104, 105, 106, 107, 108, 109, 110, 111, 112, 113, 114, 115, 116, 117, 118, 119, 120, 121, 122, 65, 66, 67, 68, 69, 70, 71, 72, 73, 74, 75, 76, 77, 78, 79, 80, 81, 82, 83, 84, 85, 86, 87, 88, 89, 90, 48, 49, 50, 51, 52, 53, 54, 55, 56, 57, 46, 95, 45, 47, 58, 64]⟩
def sdS : ByteArray := ⟨#[97, 98, 99, 100, 101, 102, 103, 104, 105, 106, 107, 108, 109, 110, 111, 112, 113, 114, 115, 116, 117, 118, 119, 120, 121, 122, 48, 49, 50, 51, 52, 53, 54, 55, 56, 57]⟩
theorem lab_set (c : UInt8) : oneOf c labS.data.toList = inL c := by
  have := all_u8 (fun c => oneOf c labS.data.toList == inL c) (by decide +kernel) c
  simpa using this
theorem var_set (c : UInt8) : oneOf c varS.data.toList = inV c := by
  have := all_u8 (fun c => oneOf c varS.data.toList == inV c) (by decide +kernel) c
  simpa using this
theorem img_set (c : UInt8) : oneOf c imgS.data.toList = inI c := by
  have := all_u8 (fun c => oneOf c imgS.data.toList == inI c) (by decide +kernel) c
  simpa using this
theorem dig_set (c : UInt8) : oneOf c digitS.data.toList = digB c := by
  have := all_u8 (fun c => oneOf c digitS.data.toList == digB c) (by decide +kernel) c
  simpa using this
theorem sd_set (c : UInt8) : oneOf c sdS.data.toList = (smallB c || digB c) := by
  have := all_u8 (fun c => oneOf c sdS.data.toList == (smallB c || digB c)) (by decide +kernel) c
  simpa using this
/-- The constants, with what they make together. -/
structure Sets (a b c l v i d : ByteArray) : Prop where
  sm : ∀ W, Calls Tryz.prog 112 #[] W fun e w' => e = .returned (.string a) ∧ W = w'
  gr : ∀ W, Calls Tryz.prog 113 #[] W fun e w' => e = .returned (.string b) ∧ W = w'
  di : ∀ W, Calls Tryz.prog 114 #[] W fun e w' => e = .returned (.string c) ∧ W = w'
  lab : a ++ c ++ ⟨#[45]⟩ = l
  var1 : a ++ b ++ c ++ ⟨#[95]⟩ = v
  img : a ++ b ++ c ++ ⟨#[46, 95, 45, 47, 58, 64]⟩ = i
  sd : a ++ c = d
  na : a.size = 26
  nb : b.size = 26
  nc : c.size = 10
  nl : l.size = 37
  nv : v.size = 63
  ni : i.size = 68
  nd : d.size = 36
  sl : ∀ x, oneOf x l.data.toList = inL x
  sv : ∀ x, oneOf x v.data.toList = inV x
  si : ∀ x, oneOf x i.data.toList = inI x
  sc : ∀ x, oneOf x c.data.toList = digB x
  sd2 : ∀ x, oneOf x d.data.toList = (smallB x || digB x)
theorem sets : Sets smallS greatS digitS labS varS imgS sdS where
  sm := rsmall_any
  gr := rgreat_any
  di := rdigits_any
  lab := by decide +kernel
  var1 := by decide +kernel
  img := by decide +kernel
  sd := by decide +kernel
  na := rfl
  nb := rfl
  nc := rfl
  nl := rfl
  nv := rfl
  ni := rfl
  nd := rfl
  sl := lab_set
  sv := var_set
  si := img_set
  sc := dig_set
  sd2 := sd_set
end Go.Proofs.YtldncgelghcjeaaGreatDoor
namespace Go.Proofs.YtldncgelghcjeaaGreatDoor
open Go.ChangeShapes Go.WideShapes Go.ChangeAt Go.RowKit

theorem some_ne (c : UInt8) : (some c != some (45 : UInt8)) = decide (¬ ((c.toNat : Int) = 45)) := by
  rw [Bool.eq_iff_iff]
  simp only [bne_iff_ne, ne_eq, Option.some.injEq, decide_eq_true_eq, ← UInt8.toNat_inj]
  show ¬ c.toNat = 45 ↔ _
  omega
set_option maxRecDepth 100000 in
theorem rlabel_any (s : ByteArray) (w : World) (hs : s.size ≤ 4000000) : Calls Tryz.prog 80 #[.string s] w fun e w' => e = .returned (.bool (labB s.data.toList)) ∧ w = w' := by
  have HSZ : Hid (s.data.toList.length = s.size) := by rw [Hid]; simp
  have HL : Hid (labB s.data.toList = ((decide (1 ≤ s.size) && decide (s.size ≤ 63)) && (s.data.toList.head? != some 45 && (s.data.toList.getLast? != some 45 && s.data.toList.all inL)))) := by
    rw [Hid, labB, HSZ.out]
  have HS := sets
  revert HS
  generalize smallS = a; generalize greatS = b; generalize digitS = c; generalize labS = l; generalize varS = v; generalize imgS = i; generalize sdS = d
  intro HS
  have HSM := Lib.hid HS.sm
  have HDI := Lib.hid HS.di
  have q0 := HS.lab
  have z1 := HS.na
  have z2 := HS.nc
  have z3 := HS.nl
  have HRA := Lib.hid (fun W => rall_any s l W hs (by omega))
  have HALL : Hid ((s.data.toList.all fun x => oneOf x l.data.toList) = s.data.toList.all inL) := by rw [Hid]; congr 1; funext x; exact HS.sl x
  rw [HALL.out] at HRA
  clear HS HALL
  by_cases h1 : 1 ≤ s.size
  · by_cases h2 : s.size ≤ 63
    · have hlast : s.size - 1 < s.size := by omega
      have h0 : 0 < s.size := by omega
      have HH : Hid (s.data.toList.head? = some s[0]) := by
        rw [Hid, List.head?_eq_getElem?, List.getElem?_eq_getElem (by rw [HSZ.out]; exact h0)]; rfl
      have HE : Hid (s.data.toList.getLast? = some s[s.size - 1]) := by
        rw [Hid, List.getLast?_eq_getElem?, HSZ.out, List.getElem?_eq_getElem (by rw [HSZ.out]; exact hlast)]; rfl
      have e1 : ((s.size : Int) - 1) = ((s.size - 1 : Nat) : Int) := by omega
      have HL2 : Hid (labB s.data.toList = (some s[0] != some 45 && (some s[s.size - 1] != some 45 && s.data.toList.all inL))) := by
        rw [Hid, HL.out, HH.out, HE.out, decide_eq_true h1, decide_eq_true h2]; rfl
      have B0 := Lib.hid (some_ne s[0])
      have B1 := Lib.hid (some_ne s[s.size - 1])
      clear HL HH HE hs
      generalize labB s.data.toList = r at *
      generalize s.data.toList.all inL = al at *
      cases al
      all_goals go_enter Tryz.func80, Tryz.ntmps80
      all_goals go_wp2_with (first | (go_at_call 112; refine (HSM.out _).mono ?_; rintro e w' ⟨rfl, rfl⟩) | (go_at_call 114; refine (HDI.out _).mono ?_; rintro e w' ⟨rfl, rfl⟩) | (go_at_call 111; refine (HRA.out _).mono ?_; rintro e w' ⟨rfl, rfl⟩))
      all_goals go_ret
      all_goals refine ⟨?_, rfl⟩
      all_goals refine ret_bool ?_
      all_goals rw [HL2.out, B0.out, B1.out]
      all_goals (first | (simp [*]; done) | (rw [Bool.eq_iff_iff]; simp [*]; done))
    · have HL2 : Hid (labB s.data.toList = false) := by
        rw [Hid, HL.out, decide_eq_false h2]; simp
      clear HL hs
      generalize labB s.data.toList = r at *
      go_enter Tryz.func80, Tryz.ntmps80
      go_wp2_with (fail)
      all_goals go_ret
      all_goals exact ⟨ret_bool HL2.out.symm, rfl⟩
  · have HL2 : Hid (labB s.data.toList = false) := by
      rw [Hid, HL.out, decide_eq_false h1]; simp
    clear HL hs
    generalize labB s.data.toList = r at *
    go_enter Tryz.func80, Tryz.ntmps80
    go_wp2_with (fail)
    all_goals go_ret
    all_goals exact ⟨ret_bool HL2.out.symm, rfl⟩
end Go.Proofs.YtldncgelghcjeaaGreatDoor
namespace Go.Proofs.YtldncgelghcjeaaGreatDoor
open Go.ChangeShapes Go.WideShapes Go.ChangeAt Go.RowKit

set_option maxRecDepth 100000 in
set_option maxHeartbeats 1000000 in
theorem rvariable_any (s : ByteArray) (w : World) (hs : s.size ≤ 4000000) : Calls Tryz.prog 130 #[.string s] w fun e w' => e = .returned (.bool (varB s.data.toList)) ∧ Fresh w w' := by
  have HSZ : Hid (s.data.toList.length = s.size) := by rw [Hid]; simp
  have HS := sets
  revert HS
  generalize smallS = a; generalize greatS = b; generalize digitS = c; generalize labS = l; generalize varS = v; generalize imgS = i; generalize sdS = d
  intro HS
  have HSM := Lib.hid HS.sm
  have HGR := Lib.hid HS.gr
  have HDI := Lib.hid HS.di
  have HL : Hid (varB s.data.toList = ((decide (1 ≤ s.size) && decide (s.size ≤ 63)) && (!digB (s.data.toList.headD 0) && s.data.toList.all inV))) := by
    rw [Hid, varB, HSZ.out]
  have q0 := HS.var1

  have z1 := HS.na
  have z2 := HS.nb
  have z3 := HS.nc
  have z4 := HS.nv
  have z5 := HS.nd
  have HRA := Lib.hid (fun W => rall_any s v W hs (by omega))
  have HALL : Hid ((s.data.toList.all fun x => oneOf x v.data.toList) = s.data.toList.all inV) := by rw [Hid]; congr 1; funext x; exact HS.sv x
  rw [HALL.out] at HRA
  have HRI := Lib.hid (fun x W => rin_any x c W (by omega))
  have HIN := Lib.hid HS.sc
  clear HS HALL
  by_cases h1 : 1 ≤ s.size
  · by_cases h2 : s.size ≤ 63
    · have h0 : 0 < s.size := by omega
      have HH : Hid (s.data.toList.headD 0 = s[0]) := by
        rw [Hid, List.headD_eq_head?_getD, List.head?_eq_getElem?, List.getElem?_eq_getElem (by rw [HSZ.out]; exact h0)]; rfl
      have HL2 : Hid (varB s.data.toList = (!digB (s[0]) && s.data.toList.all inV)) := by
        rw [Hid, HL.out, HH.out, decide_eq_true h1, decide_eq_true h2]; rfl
      have HRI0 := Lib.hid (fun W => HRI.out s[0] W)
      rw [HIN.out] at HRI0
      clear HL HH hs HRI HIN
      generalize varB s.data.toList = r at *
      generalize s.data.toList.all inV = al at *
      generalize digB s[0] = dg at *
      cases al
      all_goals go_enter Tryz.func130, Tryz.ntmps130
      all_goals go_wp2_with (fail)
      all_goals (have cb1 : decide ((1 : Int) ≤ (s.size : Int)) = true := decide_eq_true (by omega); have cb2 : decide ((s.size : Int) ≤ 63) = true := decide_eq_true (by omega); have ib : (0 : Int) < (s.size : Int) := by omega)
      all_goals go_quiet (first | (exact Calls.quiet_of_same ((HSM.out _).mono fun e w' h => ⟨h.1, h.2.symm⟩)) | (exact Calls.quiet_of_same ((HGR.out _).mono fun e w' h => ⟨h.1, h.2.symm⟩)) | (exact Calls.quiet_of_same ((HDI.out _).mono fun e w' h => ⟨h.1, h.2.symm⟩)) | (exact Calls.quiet_of_same ((HRA.out _).mono fun e w' h => ⟨h.1, h.2.symm⟩)) | (exact Calls.quiet_of_same ((HRI0.out _).mono fun e w' h => ⟨h.1, h.2.symm⟩)))
      all_goals go_wp2
      all_goals go_ret
      all_goals refine ⟨?_, fresh_drewN _ _⟩
      all_goals refine ret_bool ?_
      all_goals rw [HL2.out]
      all_goals (cases dg <;> simp)
    · have HL2 : Hid (varB s.data.toList = false) := by
        rw [Hid, HL.out, decide_eq_false h2]; simp
      clear HL hs
      generalize varB s.data.toList = r at *
      go_enter Tryz.func130, Tryz.ntmps130
      go_wp2_with (fail)
      have cb1 : decide ((1 : Int) ≤ (s.size : Int)) = true := decide_eq_true (by omega)
      have cb2 : decide ((s.size : Int) ≤ 63) = false := decide_eq_false (by omega)
      go_quiet (fail)
      go_wp2
      go_ret
      exact ⟨ret_bool HL2.out.symm, fresh_drewN _ _⟩
  · have HL2 : Hid (varB s.data.toList = false) := by
      rw [Hid, HL.out, decide_eq_false h1]; simp
    clear HL hs
    generalize varB s.data.toList = r at *
    go_enter Tryz.func130, Tryz.ntmps130
    go_wp2_with (fail)
    have cb1 : decide ((1 : Int) ≤ (s.size : Int)) = false := decide_eq_false (by omega)
    go_quiet (fail)
    go_wp2
    go_ret
    exact ⟨ret_bool HL2.out.symm, fresh_drewN _ _⟩
set_option maxRecDepth 100000 in
set_option maxHeartbeats 1000000 in
theorem rimage_any (s : ByteArray) (w : World) (hs : s.size ≤ 4000000) : Calls Tryz.prog 79 #[.string s] w fun e w' => e = .returned (.bool (imgB s.data.toList)) ∧ Fresh w w' := by
  have HSZ : Hid (s.data.toList.length = s.size) := by rw [Hid]; simp
  have HS := sets
  revert HS
  generalize smallS = a; generalize greatS = b; generalize digitS = c; generalize labS = l; generalize varS = v; generalize imgS = i; generalize sdS = d
  intro HS
  have HSM := Lib.hid HS.sm
  have HGR := Lib.hid HS.gr
  have HDI := Lib.hid HS.di
  have HL : Hid (imgB s.data.toList = ((decide (1 ≤ s.size) && decide (s.size ≤ 255)) && ((smallB (s.data.toList.headD 0) || digB (s.data.toList.headD 0)) && s.data.toList.all inI))) := by
    rw [Hid, imgB, HSZ.out]
  have q0 := HS.img
  have q1 := HS.sd
  have z1 := HS.na
  have z2 := HS.nb
  have z3 := HS.nc
  have z4 := HS.ni
  have z5 := HS.nd
  have HRA := Lib.hid (fun W => rall_any s i W hs (by omega))
  have HALL : Hid ((s.data.toList.all fun x => oneOf x i.data.toList) = s.data.toList.all inI) := by rw [Hid]; congr 1; funext x; exact HS.si x
  rw [HALL.out] at HRA
  have HRI := Lib.hid (fun x W => rin_any x d W (by omega))
  have HIN := Lib.hid HS.sd2
  clear HS HALL
  by_cases h1 : 1 ≤ s.size
  · by_cases h2 : s.size ≤ 255
    · have h0 : 0 < s.size := by omega
      have HH : Hid (s.data.toList.headD 0 = s[0]) := by
        rw [Hid, List.headD_eq_head?_getD, List.head?_eq_getElem?, List.getElem?_eq_getElem (by rw [HSZ.out]; exact h0)]; rfl
      have HL2 : Hid (imgB s.data.toList = ((smallB (s[0]) || digB (s[0])) && s.data.toList.all inI)) := by
        rw [Hid, HL.out, HH.out, decide_eq_true h1, decide_eq_true h2]; rfl
      have HRI0 := Lib.hid (fun W => HRI.out s[0] W)
      rw [HIN.out] at HRI0
      clear HL HH hs HRI HIN
      generalize imgB s.data.toList = r at *
      generalize s.data.toList.all inI = al at *
      generalize (smallB s[0] || digB s[0]) = dg at *
      cases al
      all_goals go_enter Tryz.func79, Tryz.ntmps79
      all_goals go_wp2_with (fail)
      all_goals (have cb1 : decide ((1 : Int) ≤ (s.size : Int)) = true := decide_eq_true (by omega); have cb2 : decide ((s.size : Int) ≤ 255) = true := decide_eq_true (by omega); have ib : (0 : Int) < (s.size : Int) := by omega)
      all_goals go_quiet (first | (exact Calls.quiet_of_same ((HSM.out _).mono fun e w' h => ⟨h.1, h.2.symm⟩)) | (exact Calls.quiet_of_same ((HGR.out _).mono fun e w' h => ⟨h.1, h.2.symm⟩)) | (exact Calls.quiet_of_same ((HDI.out _).mono fun e w' h => ⟨h.1, h.2.symm⟩)) | (exact Calls.quiet_of_same ((HRA.out _).mono fun e w' h => ⟨h.1, h.2.symm⟩)) | (exact Calls.quiet_of_same ((HRI0.out _).mono fun e w' h => ⟨h.1, h.2.symm⟩)))
      all_goals go_wp2
      all_goals go_ret
      all_goals refine ⟨?_, fresh_drewN _ _⟩
      all_goals refine ret_bool ?_
      all_goals rw [HL2.out]
      all_goals (cases dg <;> simp)
    · have HL2 : Hid (imgB s.data.toList = false) := by
        rw [Hid, HL.out, decide_eq_false h2]; simp
      clear HL hs
      generalize imgB s.data.toList = r at *
      go_enter Tryz.func79, Tryz.ntmps79
      go_wp2_with (fail)
      have cb1 : decide ((1 : Int) ≤ (s.size : Int)) = true := decide_eq_true (by omega)
      have cb2 : decide ((s.size : Int) ≤ 255) = false := decide_eq_false (by omega)
      go_quiet (fail)
      go_wp2
      go_ret
      exact ⟨ret_bool HL2.out.symm, fresh_drewN _ _⟩
  · have HL2 : Hid (imgB s.data.toList = false) := by
      rw [Hid, HL.out, decide_eq_false h1]; simp
    clear HL hs
    generalize imgB s.data.toList = r at *
    go_enter Tryz.func79, Tryz.ntmps79
    go_wp2_with (fail)
    have cb1 : decide ((1 : Int) ≤ (s.size : Int)) = false := decide_eq_false (by omega)
    go_quiet (fail)
    go_wp2
    go_ret
    exact ⟨ret_bool HL2.out.symm, fresh_drewN _ _⟩
end Go.Proofs.YtldncgelghcjeaaGreatDoor
namespace Go.Proofs.YtldncgelghcjeaaGreatDoor
open Go.ChangeShapes Go.WideShapes Go.ChangeAt Go.RowKit

theorem srow_shape {w : World} {B : Nat} {v : Value} {l : List (List UInt8)} (h : SBuf w B v l) : ∃ o c, v = .slice o l.length c := by
  rcases h.2 with ⟨h1, h2⟩ | ⟨g, cap, c2, h1, _⟩
  · exact ⟨none, 0, by rw [h1, h2]⟩
  · exact ⟨_, _, h1⟩
/-- How far a text is cut. -/
def CutAt (l : List UInt8) (f i : Nat) (out : List (List UInt8)) : Prop := lnsA [] l = out ++ lnsA ((l.take i).drop f) (l.drop i)
theorem cutAt_start (l : List UInt8) : CutAt l 0 0 [] := by simp [CutAt]
theorem cutAt_next {l : List UInt8} {f i : Nat} {out : List (List UInt8)} (h : CutAt l f i out) (hf : f ≤ i) (hi : i < l.length) (hc : l[i] ≠ 46) : CutAt l f (i + 1) out := by
  unfold CutAt at *
  rw [h, List.drop_eq_getElem_cons hi, lnsA, if_neg hc, List.take_succ_eq_append_getElem hi, List.drop_append_of_le_length (by rw [List.length_take]; omega)]
theorem cutAt_cut {l : List UInt8} {f i : Nat} {out : List (List UInt8)} (h : CutAt l f i out) (hi : i < l.length) (hc : l[i] = 46) : CutAt l (i + 1) (i + 1) (out ++ [(l.take i).drop f]) := by
  unfold CutAt at *
  rw [h, List.drop_eq_getElem_cons hi, lnsA, if_pos hc, List.drop_take_self]
  simp
theorem cutAt_end {l : List UInt8} {f : Nat} {out : List (List UInt8)} (h : CutAt l f l.length out) : lnsA [] l = out ++ [(l.take l.length).drop f] := by
  unfold CutAt at *
  rw [h]; simp [lnsA]
theorem cutAt_len {l : List UInt8} {f i : Nat} {out : List (List UInt8)} (h : CutAt l f i out) : out.length ≤ l.length + 1 := by
  have := lnsA_len [] l
  unfold CutAt at h
  rw [h, List.length_append] at this
  omega
set_option maxRecDepth 100000 in
set_option maxHeartbeats 2000000 in
theorem rcut_any (l : List UInt8) (w : World) (hs : l.length ≤ 4000000) : Calls Tryz.prog 110 #[.string (tx l)] w fun e w' => ∃ v, e = .returned v ∧ SBuf w' w.heap.size v (lnsA [] l) ∧ Fresh w w' := by
  obtain ⟨i0, hi, hz0, hz1, hz2⟩ := info_parts info9
  have HSZ := Lib.hid (tx_size l)
  have HGET : Hid (∀ (k : Nat) (h : k < (tx l).size) (h' : k < l.length), (tx l)[k]'h = l[k]'h') := fun k h h' => rfl
  have HEX : Hid (∀ f i, (tx l).extract f i = tx ((l.take i).drop f)) := fun f i => by
    rw [tx_extract, tx_toList, List.drop_take]
  have hs2 : (tx l).size ≤ 4000000 := by rw [tx_size]; exact hs
  generalize tx l = S at *
  clear hs
  go_enter Tryz.func110, Tryz.ntmps110
  go_wp2
  go_loopw [3, 4, 5] (fun a3 a4 a5 wr => ∃ (f i : Nat) (out : List (List UInt8)) (v : Value), a3 = v ∧ a4 = .int .i64 (f : Int) ∧ a5 = .int .i64 (i : Int) ∧ i ≤ S.size + 1 ∧ Hid (i ≤ S.size → f ≤ i) ∧ Hid (i ≤ S.size → CutAt l f i out) ∧ Hid (¬ i ≤ S.size → lnsA [] l = out) ∧ Hid (SBuf wr w.heap.size v out) ∧ Hid (Fresh w wr)) (fun _ _ a5 _ => S.size + 1 - (intOf a5).toNat)
  case atStart => exact ⟨0, 0, [], _, rfl, rfl, rfl, by omega, fun _ => by omega, fun _ => cutAt_start l, fun h => absurd (Nat.zero_le _) h, World.ownsRow_nil _ _ _ _, Fresh.refl _⟩
  case round =>
    obtain ⟨f, i, out, v, rfl, rfl, rfl, hle, HFI, HC, HE, HB, HF⟩ := hrel
    by_cases hin : i ≤ S.size
    · have hfi := HFI.out hin
      have hol := cutAt_len (HC.out hin)
      have HOL : Hid (out.length ≤ 5000000) := by rw [Hid]; have := HSZ.out; omega
      obtain ⟨o, c, hv⟩ := srow_shape HB.out
      subst hv
      have HSN : Hid (∀ (A : World) (u : Value) (x : List UInt8), A.ownsRow w.heap.size 9 1 u (out.length + 1) (scells out ++ [.string (tx x)]) → SBuf A w.heap.size u (out ++ [x])) := fun A u x h => SBuf.more h
      have HX := Lib.hid (HEX.out f i)
      have hbs := HF.out.size
      clear hol
      by_cases hend : i = S.size
      · subst hend
        have HDONE : Hid (lnsA [] l = out ++ [(l.take S.size).drop f]) := by
          have := HC.out hin
          rw [HSZ.out] at this ⊢
          exact cutAt_end this
        go_wp2_with (at_builtin; refine wpList_append_own _ rfl _ _ 111 rfl w.heap.size 9 i0 (.string ⟨#[]⟩) 1 16 Tryz.underlying111 hi hz0 hz1 hz2 rfl (by decide) _ _ _ rfl (World.ownsRow.alloc HB.out _) ⟨wr.heap.size, 0, none⟩ 1 1 [.string (S.extract f S.size)] rfl rfl (cell_one_new _ _ _) (by simp [Value.oneCell']) (by have := HOL.out; unfold maxLen; omega) (by have := HOL.out; omega) (by rw [World.size_alloc]; omega) ?_; intro v' w3 hown' hgrow _; obtain ⟨g', cap', rfl⟩ := ownsRow_succ hown'; have HOWN := Lib.hid hown'; have HGROW := Lib.hid hgrow; clear hown' hgrow)
        all_goals try (exfalso; omega)
        go_roundw
        case rel => 
          refine ⟨S.size + 1, S.size + 1, out ++ [(l.take S.size).drop f], _, rfl, by simp, by simp, by omega, fun h => by omega, fun h => by omega, fun _ => HDONE.out, ?_, ?_⟩
          · have := HOWN.out
            rw [HX.out] at this
            exact HSN.out _ _ _ this
          · exact (HF.out.alloc _).grown HGROW.out (fun g e => (HB.out.lt g e).1)
        case measure => simp [intOf]
      · have hlt : i < S.size := by omega
        have HLT : Hid (i < l.length) := by rw [Hid, ← HSZ.out]; exact hlt
        have HGI := Lib.hid (HGET.out i hlt HLT.out)
        have e0 : ((i : Int) == (S.size : Int)) = false := by rw [beq_eq_false_iff_ne]; omega
        by_cases hpt : (S[i].toNat : Int) = 46
        · have HNX : Hid (CutAt l (i + 1) (i + 1) (out ++ [(l.take i).drop f])) := cutAt_cut (HC.out hin) HLT.out (by
            rw [← HGI.out, ← UInt8.toNat_inj]
            show S[i].toNat = 46
            omega)
          go_wp2_with (at_builtin; refine wpList_append_own _ rfl _ _ 111 rfl w.heap.size 9 i0 (.string ⟨#[]⟩) 1 16 Tryz.underlying111 hi hz0 hz1 hz2 rfl (by decide) _ _ _ rfl (World.ownsRow.alloc HB.out _) ⟨wr.heap.size, 0, none⟩ 1 1 [.string (S.extract f i)] rfl rfl (cell_one_new _ _ _) (by simp [Value.oneCell']) (by have := HOL.out; unfold maxLen; omega) (by have := HOL.out; omega) (by rw [World.size_alloc]; omega) ?_; intro v' w3 hown' hgrow _; obtain ⟨g', cap', rfl⟩ := ownsRow_succ hown'; have HOWN := Lib.hid hown'; have HGROW := Lib.hid hgrow; clear hown' hgrow)
          all_goals try (exfalso; omega)
          go_roundw
          case rel => 
            refine ⟨i + 1, i + 1, out ++ [(l.take i).drop f], _, rfl, by simp, by simp, by omega, fun h => by omega, fun _ => HNX.out, fun h => by omega, ?_, ?_⟩
            · have := HOWN.out
              rw [HX.out] at this
              exact HSN.out _ _ _ this
            · exact (HF.out.alloc _).grown HGROW.out (fun g e => (HB.out.lt g e).1)
          case measure => simp [intOf]; omega
        · have HNX : Hid (CutAt l f (i + 1) out) := cutAt_next (HC.out hin) hfi HLT.out (fun e => hpt (by
            rw [HGI.out, e]; rfl))
          go_wp2
          all_goals try (exfalso; omega)
          go_roundw
          case rel => exact ⟨f, i + 1, out, _, rfl, rfl, by simp, by omega, fun _ => by omega, fun _ => HNX.out, fun h => by omega, HB.out, HF.out⟩
          case measure => simp [intOf]; omega
    · have HE2 := HE.out hin
      obtain ⟨o, c, hv⟩ := srow_shape HB.out
      subst hv
      go_wp2
      all_goals try (exfalso; omega)
      go_ret
      exact ⟨_, rfl, by rw [HE2]; exact HB.out, HF.out⟩
theorem name_alt (l : List UInt8) : nameB l = ((lnsA [] l).all labB && decide (l.length ≤ 253)) := by
  unfold nameB
  cases l with
  | nil => simp [lnsA, labB]
  | cons c r =>
    rw [decide_eq_true (by simp : 1 ≤ (c :: r).length), Bool.true_and, Bool.and_comm]
set_option maxRecDepth 100000 in
set_option maxHeartbeats 1000000 in
theorem rname_any (l : List UInt8) (w : World) (hs : l.length ≤ 4000000) : Calls Tryz.prog 78 #[.string (tx l)] w fun e w' => e = .returned (.bool (nameB l)) ∧ Fresh w w' := by
  have HCUT := Lib.hid (fun W => rcut_any l W hs)
  have HLB : Hid (∀ (k : Nat) (h : k < (lnsA [] l).length) W, Calls Tryz.prog 80 #[.string (tx (lnsA [] l)[k])] W fun e w' => e = .returned (.bool (labB (lnsA [] l)[k])) ∧ W = w') := fun k h W => by
    have := rlabel_any (tx (lnsA [] l)[k]) W (by rw [tx_size]; have := lnsA_mem l [] _ (List.getElem_mem h); simp at this; omega)
    rwa [tx_toList] at this
  have HNA := Lib.hid (name_alt l)
  have hpos : 0 < (lnsA [] l).length := List.length_pos_iff.2 (lnsA_ne [] l)
  have hle := lnsA_len [] l
  have hsz := tx_size l
  rw [HNA.out]
  clear HNA
  generalize lnsA [] l = ps at *
  generalize hS : tx l = S at *
  have hs2 : S.size ≤ 4000000 := by omega
  have HSZ := Lib.hid hsz
  have HPL : Hid (ps.length ≤ 5000000) := by rw [Hid]; omega
  clear hsz hle hs hS
  go_enter Tryz.func78, Tryz.ntmps78
  go_wp2_with (fail)
  refine (HCUT.out _).mono ?_
  rintro e w1 ⟨v, rfl, hrow, hf⟩
  obtain ⟨g, cap, rfl⟩ : ∃ g cap, v = .slice (some ⟨g, 0, none⟩) ps.length cap := by
    rcases hrow.2 with ⟨_, h0⟩ | ⟨g, cap, cur, h1, _⟩
    · omega
    · exact ⟨g, cap, h1⟩
  have HROW := Lib.hid hrow
  have HF := Lib.hid hf
  clear hrow hf HCUT
  go_wp2
  go_loopw [4] (fun a4 wr => ∃ (k : Nat), a4 = .int .i64 (k : Int) ∧ k ≤ ps.length ∧ w1 = wr ∧ Hid (∀ p ∈ ps.take k, labB p = true)) (fun a4 _ => ps.length - (intOf a4).toNat)
  case atStart => exact ⟨0, rfl, Nat.zero_le _, rfl, by simp [Hid]⟩
  case round =>
    obtain ⟨k, rfl, hk, rfl, HA⟩ := hrel
    have hpl := HPL.out
    by_cases hlt : k < ps.length
    · have HC := Lib.hid (HLB.out k hlt)
      have hcell := SBuf.cell HROW.out k hlt
      cases hp : labB ps[k] with
      | false =>
        rw [hp] at HC
        have HR : Hid ((ps.all labB && decide (l.length ≤ 253)) = false) := by
          rw [Hid, Bool.and_eq_false_iff]
          left
          rw [Bool.eq_false_iff]
          intro h
          have := List.all_eq_true.1 h ps[k] (List.getElem_mem hlt)
          rw [hp] at this; cases this
        clear hp
        generalize tx ps[k] = P at *
        go_wp2_with (go_at_call 80; refine (HC.out _).mono ?_; rintro e w' ⟨rfl, rfl⟩)
        all_goals try (exfalso; omega)
        go_ret
        exact ⟨ret_bool HR.out.symm, HF.out⟩
      | true =>
        rw [hp] at HC
        have HN : Hid (∀ p ∈ ps.take (k + 1), labB p = true) := by
          rw [Hid, List.take_succ_eq_append_getElem hlt]
          intro c hc
          rcases List.mem_append.1 hc with h | h
          · exact HA.out c h
          · rw [List.mem_singleton.1 h]; exact hp
        clear hp
        generalize tx ps[k] = P at *
        go_wp2_with (go_at_call 80; refine (HC.out _).mono ?_; rintro e w' ⟨rfl, rfl⟩)
        all_goals try (exfalso; omega)
        go_roundw
        case rel => exact ⟨k + 1, by simp, by omega, by trivial, HN.out⟩
        case measure => simp [intOf]; omega
    · obtain rfl : k = ps.length := by omega
      have HR : Hid ((ps.all labB && decide (l.length ≤ 253)) = decide ((S.size : Int) ≤ 253)) := by
        rw [Hid]
        have : ps.all labB = true := by
          rw [List.all_eq_true]
          intro c hc
          exact HA.out c (by rw [List.take_length]; exact hc)
        rw [this, Bool.true_and, Bool.eq_iff_iff]
        simp only [decide_eq_true_eq]
        rw [HSZ.out]; omega
      go_wp2
      all_goals try (exfalso; omega)
      go_ret
      exact ⟨ret_bool HR.out.symm, HF.out⟩
end Go.Proofs.YtldncgelghcjeaaGreatDoor
namespace Go.Proofs.YtldncgelghcjeaaGreatDoor
open Go.ChangeShapes Go.WideShapes Go.ChangeAt Go.RowKit
variable {w : World}

/-- The bytes behind a lead byte: so many, the first of them in a range of its own. -/
def contOK : List UInt8 → Nat → Nat → Nat → Bool
  | _, 0, _, _ => true
  | [], _ + 1, _, _ => false
  | b :: l, n + 1, lo, hi => decide (lo ≤ b.toNat ∧ b.toNat ≤ hi) && contOK l n 128 191
theorem valid_lead (c : UInt8) (l : List UInt8) (n lo hi : Nat) (hc : 128 ≤ c.toNat) (hn : n = 1 ∨ n = 2 ∨ n = 3) (h1 : Lib.firstT c.toNat % 8 = n + 1) (h2 : Lib.accLo (Lib.firstT c.toNat / 16) = lo) (h3 : Lib.accHi (Lib.firstT c.toNat / 16) = hi) :
    Lib.validD (c :: l) = (contOK l n lo hi && Lib.validD (l.drop n)) := by
  rw [Lib.validD_lead (c :: l) (by simp) (by simpa using hc)]
  simp only [List.getD_cons_zero, List.getD_cons_succ, h1, h2, h3]
  rcases hn with rfl | rfl | rfl
  · rcases l with _ | ⟨a, l⟩
    · simp [Lib.checkN, contOK]
    · by_cases ha : lo ≤ a.toNat ∧ a.toNat ≤ hi
      · rw [Lib.checkN, if_pos rfl, if_neg (by simp; omega)]
        simp [contOK, ha]
      · rw [Lib.checkN, if_pos rfl, if_pos (by simp; omega)]
        simp [contOK, ha]
  · rcases l with _ | ⟨a, _ | ⟨b, l⟩⟩
    · simp [Lib.checkN, contOK]
    · simp [Lib.checkN, contOK]
    · by_cases ha : lo ≤ a.toNat ∧ a.toNat ≤ hi
      · by_cases hb : 128 ≤ b.toNat ∧ b.toNat ≤ 191
        · rw [Lib.checkN, if_neg (by omega), if_pos rfl, if_neg (by simp; omega)]
          simp [contOK, ha, hb]
        · rw [Lib.checkN, if_neg (by omega), if_pos rfl, if_pos (by simp; omega)]
          simp [contOK, hb]
      · rw [Lib.checkN, if_neg (by omega), if_pos rfl, if_pos (by simp; omega)]
        simp [contOK, ha]
  · rcases l with _ | ⟨a, _ | ⟨b, _ | ⟨d, l⟩⟩⟩
    · simp [Lib.checkN, contOK]
    · simp [Lib.checkN, contOK]
    · simp [Lib.checkN, contOK]
    · by_cases ha : lo ≤ a.toNat ∧ a.toNat ≤ hi
      · by_cases hb : 128 ≤ b.toNat ∧ b.toNat ≤ 191
        · by_cases hd : 128 ≤ d.toNat ∧ d.toNat ≤ 191
          · rw [Lib.checkN, if_neg (by omega), if_neg (by omega), if_pos rfl, if_neg (by simp; omega)]
            simp [contOK, ha, hb, hd]
          · rw [Lib.checkN, if_neg (by omega), if_neg (by omega), if_pos rfl, if_pos (by simp; omega)]
            simp [contOK, hd]
        · rw [Lib.checkN, if_neg (by omega), if_neg (by omega), if_pos rfl, if_pos (by simp; omega)]
          simp [contOK, hb]
      · rw [Lib.checkN, if_neg (by omega), if_neg (by omega), if_pos rfl, if_pos (by simp; omega)]
        simp [contOK, ha]
theorem valid_bad (c : UInt8) (l : List UInt8) (hc : 128 ≤ c.toNat) (h1 : Lib.firstT c.toNat = 241) : Lib.validD (c :: l) = false := by
  rw [Lib.validD_lead (c :: l) (by simp) (by simpa using hc)]
  simp [Lib.checkN, h1]
theorem drop_at (s : ByteArray) (i : Nat) (h : i < s.size) : s.data.toList.drop i = s[i] :: s.data.toList.drop (i + 1) := by
  rw [List.drop_eq_getElem_cons (by simpa using h)]; rfl
/-- What a lead byte asks for. -/
def Lead (s : ByteArray) (i n lo hi : Nat) : Prop := Lib.validD (s.data.toList.drop i) = (contOK (s.data.toList.drop (i + 1)) n lo hi && Lib.validD (s.data.toList.drop (i + 1 + n)))
theorem lead_of (s : ByteArray) (i n lo hi : Nat) (h : i < s.size) (hc : 128 ≤ s[i].toNat) (hn : n = 1 ∨ n = 2 ∨ n = 3) (h1 : Lib.firstT s[i].toNat % 8 = n + 1) (h2 : Lib.accLo (Lib.firstT s[i].toNat / 16) = lo) (h3 : Lib.accHi (Lib.firstT s[i].toNat / 16) = hi) : Lead s i n lo hi := by
  unfold Lead
  rw [drop_at s i h, valid_lead _ _ n lo hi hc hn h1 h2 h3, List.drop_drop]
theorem lead_ascii (s : ByteArray) (i : Nat) (h : i < s.size) (hc : s[i].toNat < 128) : Lead s i 0 128 191 := by
  unfold Lead
  rw [drop_at s i h, Lib.validD_cons _ _ hc, contOK, Bool.true_and, Nat.add_zero]
theorem lead_bad (s : ByteArray) (i : Nat) (h : i < s.size) (hc : 128 ≤ s[i].toNat) (h1 : Lib.firstT s[i].toNat = 241) : Lib.validD (s.data.toList.drop i) = false := by
  rw [drop_at s i h, valid_bad _ _ hc h1]
/-- So far the bytes behind are well. -/
def Cont (s : ByteArray) (i n lo hi k lo' hi' : Nat) : Prop := contOK (s.data.toList.drop (i + 1)) n lo hi = contOK (s.data.toList.drop (i + k)) (n + 1 - k) lo' hi'
theorem cont_short {s : ByteArray} {i n lo hi k lo' hi' : Nat} (h : Cont s i n lo hi k lo' hi') (hk : k ≤ n) (hs : s.size ≤ i + k) : contOK (s.data.toList.drop (i + 1)) n lo hi = false := by
  rw [h, List.drop_eq_nil_of_le (by simpa using hs), show n + 1 - k = (n - k) + 1 by omega, contOK]
theorem cont_no {s : ByteArray} {i n lo hi k lo' hi' : Nat} (h : Cont s i n lo hi k lo' hi') (hk : k ≤ n) (hs : i + k < s.size) (hb : s[i + k].toNat < lo' ∨ hi' < s[i + k].toNat) : contOK (s.data.toList.drop (i + 1)) n lo hi = false := by
  rw [h, drop_at s (i + k) hs, show n + 1 - k = (n - k) + 1 by omega, contOK, decide_eq_false (by omega), Bool.false_and]
theorem cont_yes {s : ByteArray} {i n lo hi k lo' hi' : Nat} (h : Cont s i n lo hi k lo' hi') (hk : k ≤ n) (hs : i + k < s.size) (hb : lo' ≤ s[i + k].toNat ∧ s[i + k].toNat ≤ hi') : Cont s i n lo hi (k + 1) 128 191 := by
  unfold Cont at h ⊢
  rw [h, drop_at s (i + k) hs, show n + 1 - k = (n - k) + 1 by omega, contOK, decide_eq_true hb, Bool.true_and, show n + 1 - (k + 1) = n - k by omega, Nat.add_assoc]
theorem cont_end {s : ByteArray} {i n lo hi lo' hi' : Nat} (h : Cont s i n lo hi (n + 1) lo' hi') : contOK (s.data.toList.drop (i + 1)) n lo hi = true := by
  rw [h, Nat.sub_self, contOK]
end Go.Proofs.YtldncgelghcjeaaGreatDoor
