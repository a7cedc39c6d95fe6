/-
  The document's labels, variables' and images' names.
-/
import Derived.Test.YtphjhlnjfcfdcaaDBase
import Derived.Test.YtphjhlnjfcfdcaaSMath
namespace Go.Proofs.Ytphjhlnjfcfdcaa
open Go.ChangeShapes Go.WideShapes Go.ChangeAt Go.RowKit

/-- Is a byte one of these? -/
def oneOf (b : UInt8) (l : List UInt8) : Bool := l.any fun c => decide (c = b)
theorem u8_eq (a b : UInt8) : decide (a = b) = ((a.toNat : Int) == (b.toNat : Int)) := by
  rw [Bool.eq_iff_iff]
  simp only [decide_eq_true_eq, beq_iff_eq, ← UInt8.toNat_inj]
  omega
set_option maxRecDepth 100000 in
theorem rin_any (b : UInt8) (s : ByteArray) (w : World) (hs : s.size ≤ 4000000) : Calls Try.prog 70 #[.int .u8 (b.toNat : Int), .string s] w fun e w' => e = .returned (.bool (oneOf b s.data.toList)) ∧ w = w' := by
  have HSZ : Hid (s.data.toList.length = s.size) := by rw [Hid]; simp
  go_enter Try.func70, Try.ntmps70
  go_wp2
  go_loopw [5] (fun a5 wr => ∃ (k : Nat), a5 = .int .i64 (k : Int) ∧ k ≤ s.size ∧ w = wr ∧ Hid (∀ c ∈ s.data.toList.take k, decide (c = b) = false)) (fun a5 _ => s.size - (intOf a5).toNat)
  case atStart => exact ⟨0, rfl, Nat.zero_le _, rfl, by simp [Hid]⟩
  case round =>
    obtain ⟨k, rfl, hk, rfl, HA⟩ := hrel
    by_cases hlt : k < s.size
    · have HG : Hid (s.data.toList[k]? = some s[k]) := by rw [Hid, List.getElem?_eq_getElem (by rw [HSZ.out]; exact hlt)]; rfl
      have HT := Lib.hid (take_snoc s k hlt)
      have HE := Lib.hid (u8_eq s[k] b)
      by_cases hp : (s[k].toNat : Int) = (b.toNat : Int)
      · have HR : Hid (oneOf b s.data.toList = true) := by
          rw [Hid, oneOf, List.any_eq_true]
          exact ⟨s[k], List.mem_of_getElem? HG.out, by rw [HE.out, beq_iff_eq]; exact hp⟩
        go_wp2
        all_goals try (exfalso; omega)
        go_ret
        exact ⟨ret_bool HR.out.symm, rfl⟩
      · have HN : Hid (∀ c ∈ s.data.toList.take (k + 1), decide (c = b) = false) := by
          rw [Hid, HT.out]
          intro c hc
          rcases List.mem_append.1 hc with h | h
          · exact HA.out c h
          · rw [List.mem_singleton.1 h, HE.out, beq_eq_false_iff_ne]; exact hp
        go_wp2
        all_goals try (exfalso; omega)
        go_roundw
        case rel => exact ⟨k + 1, by simp, by omega, by trivial, HN.out⟩
        case measure => simp [intOf]; omega
    · obtain rfl : k = s.size := by omega
      have HR : Hid (oneOf b s.data.toList = false) := by
        rw [Hid, oneOf, List.any_eq_false]
        intro c hc
        have := HA.out c (by rw [← HSZ.out, List.take_length]; exact hc)
        rw [this]; simp
      go_wp2
      all_goals try (exfalso; omega)
      go_ret
      exact ⟨ret_bool HR.out.symm, rfl⟩
set_option maxRecDepth 100000 in
theorem rall_any (s t : ByteArray) (w : World) (hs : s.size ≤ 4000000) (ht : t.size ≤ 4000000) : Calls Try.prog 66 #[.string s, .string t] w fun e w' => e = .returned (.bool (s.data.toList.all fun c => oneOf c t.data.toList)) ∧ w = w' := by
  have HP := Lib.hid (fun c W => rin_any c t W ht)
  have HSZ : Hid (s.data.toList.length = s.size) := by rw [Hid]; simp
  go_enter Try.func66, Try.ntmps66
  go_wp2
  go_loopw [5] (fun a5 wr => ∃ (k : Nat), a5 = .int .i64 (k : Int) ∧ k ≤ s.size ∧ w = wr ∧ Hid (∀ c ∈ s.data.toList.take k, oneOf c t.data.toList = true)) (fun a5 _ => s.size - (intOf a5).toNat)
  case atStart => exact ⟨0, rfl, Nat.zero_le _, rfl, by simp [Hid]⟩
  case round =>
    obtain ⟨k, rfl, hk, rfl, HA⟩ := hrel
    by_cases hlt : k < s.size
    · have HG : Hid (s.data.toList[k]? = some s[k]) := by rw [Hid, List.getElem?_eq_getElem (by rw [HSZ.out]; exact hlt)]; rfl
      have HT := Lib.hid (take_snoc s k hlt)
      have HC := Lib.hid (fun W => HP.out s[k] W)
      cases hp : oneOf s[k] t.data.toList with
      | false =>
        rw [hp] at HC
        have HR : Hid ((s.data.toList.all fun c => oneOf c t.data.toList) = false) := by
          rw [Hid, Bool.eq_false_iff]
          intro h
          have := List.all_eq_true.1 h s[k] (List.mem_of_getElem? HG.out)
          rw [hp] at this; cases this
        clear hp
        go_wp2_with (go_at_call 70; refine (HC.out _).mono ?_; rintro e w' ⟨rfl, rfl⟩)
        all_goals try (exfalso; omega)
        go_ret
        exact ⟨ret_bool HR.out.symm, rfl⟩
      | true =>
        rw [hp] at HC
        have HN : Hid (∀ c ∈ s.data.toList.take (k + 1), oneOf c t.data.toList = true) := by
          rw [Hid, HT.out]
          intro c hc
          rcases List.mem_append.1 hc with h | h
          · exact HA.out c h
          · rw [List.mem_singleton.1 h]; exact hp
        clear hp
        go_wp2_with (go_at_call 70; refine (HC.out _).mono ?_; rintro e w' ⟨rfl, rfl⟩)
        all_goals try (exfalso; omega)
        go_roundw
        case rel => exact ⟨k + 1, by simp, by omega, by trivial, HN.out⟩
        case measure => simp [intOf]; omega
    · obtain rfl : k = s.size := by omega
      have HR : Hid ((s.data.toList.all fun c => oneOf c t.data.toList) = true) := by
        rw [Hid, List.all_eq_true]
        intro c hc
        exact HA.out c (by rw [← HSZ.out, List.take_length]; exact hc)
      go_wp2
      all_goals try (exfalso; omega)
      go_ret
      exact ⟨ret_bool HR.out.symm, rfl⟩

/-! ### which bytes -/
def smallS : ByteArray := ⟨#[97, 98, 99, 100, 101, 102, 103, 104, 105, 106, 107, 108, 109, 110, 111, 112, 113, 114, 115, 116, 117, 118, 119, 120, 121, 122]⟩
def greatS : ByteArray := ⟨#[65, 66, 67, 68, 69, 70, 71, 72, 73, 74, 75, 76, 77, 78, 79, 80, 81, 82, 83, 84, 85, 86, 87, 88, 89, 90]⟩
def digitS : ByteArray := ⟨#[48, 49, 50, 51, 52, 53, 54, 55, 56, 57]⟩
theorem rsmall_any (w : World) : Calls Try.prog 67 #[] w fun e w' => e = .returned (.string smallS) ∧ w = w' := by
  go_enter Try.func67, Try.ntmps67
  go_wp2
  go_ret
  exact ⟨rfl, rfl⟩
theorem rgreat_any (w : World) : Calls Try.prog 68 #[] w fun e w' => e = .returned (.string greatS) ∧ w = w' := by
  go_enter Try.func68, Try.ntmps68
  go_wp2
  go_ret
  exact ⟨rfl, rfl⟩
theorem rdigits_any (w : World) : Calls Try.prog 69 #[] w fun e w' => e = .returned (.string digitS) ∧ w = w' := by
  go_enter Try.func69, Try.ntmps69
  go_wp2
  go_ret
  exact ⟨rfl, rfl⟩
theorem all_u8 (p : UInt8 → Bool) (h : (List.range 256).all (fun n => p (UInt8.ofNat n)) = true) (c : UInt8) : p c = true := by
  have := List.all_eq_true.1 h c.toNat (List.mem_range.2 c.toNat_lt)
  simpa using this
def labS : ByteArray := ⟨#[97, 98, 99, 100, 101, 102, 103, 104, 105, 106, 107, 108, 109, 110, 111, 112, 113, 114, 115, 116, 117, 118, 119, 120, 121, 122, 48, 49, 50, 51, 52, 53, 54, 55, 56, 57, 45]⟩
def varS : ByteArray := ⟨#[97, 98, 99, 100, 101, 102, 103, 104, 105, 106, 107, 108, 109, 110, 111, 112, 113, 114, 115, 116, 117, 118, 119, 120, 121, 122, 65, 66, 67, 68, 69, 70, 71, 72, 73, 74, 75, 76, 77, 78, 79, 80, 81, 82, 83, 84, 85, 86, 87, 88, 89, 90, 48, 49, 50, 51, 52, 53, 54, 55, 56, 57, 95]⟩
def imgS : ByteArray := ⟨#[97, 98, 99, 100, 101, 102, 103, 104, 105, 106, 107, 108, 109, 110, 111, 112, 113, 114, 115, 116, 117, 118, 119, 120, 121, 122, 65, 66, 67, 68, 69, 70, 71, 72, 73, 74, 75, 76, 77, 78, 79, 80, 81, 82, 83, 84, 85, 86, 87, 88, 89, 90, 48, 49, 50, 51, 52, 53, 54, 55, 56, 57, 46, 95, 45, 47, 58, 64]⟩
def sdS : ByteArray := ⟨#[97, 98, 99, 100, 101, 102, 103, 104, 105, 106, 107, 108, 109, 110, 111, 112, 113, 114, 115, 116, 117, 118, 119, 120, 121, 122, 48, 49, 50, 51, 52, 53, 54, 55, 56, 57]⟩
theorem lab_set (c : UInt8) : oneOf c labS.data.toList = inL c := by
  have := all_u8 (fun c => oneOf c labS.data.toList == inL c) (by decide +kernel) c
  simpa using this
theorem var_set (c : UInt8) : oneOf c varS.data.toList = inV c := by
  have := all_u8 (fun c => oneOf c varS.data.toList == inV c) (by decide +kernel) c
  simpa using this
theorem img_set (c : UInt8) : oneOf c imgS.data.toList = inI c := by
  have := all_u8 (fun c => oneOf c imgS.data.toList == inI c) (by decide +kernel) c
  simpa using this
theorem dig_set (c : UInt8) : oneOf c digitS.data.toList = digB c := by
  have := all_u8 (fun c => oneOf c digitS.data.toList == digB c) (by decide +kernel) c
  simpa using this
theorem sd_set (c : UInt8) : oneOf c sdS.data.toList = (smallB c || digB c) := by
  have := all_u8 (fun c => oneOf c sdS.data.toList == (smallB c || digB c)) (by decide +kernel) c
  simpa using this
/-- The constants, with what they make together. -/
structure Sets (a b c l v i d : ByteArray) : Prop where
  sm : ∀ W, Calls Try.prog 67 #[] W fun e w' => e = .returned (.string a) ∧ W = w'
  gr : ∀ W, Calls Try.prog 68 #[] W fun e w' => e = .returned (.string b) ∧ W = w'
  di : ∀ W, Calls Try.prog 69 #[] W fun e w' => e = .returned (.string c) ∧ W = w'
  lab : a ++ c ++ ⟨#[45]⟩ = l
  var1 : a ++ b ++ c ++ ⟨#[95]⟩ = v
  img : a ++ b ++ c ++ ⟨#[46, 95, 45, 47, 58, 64]⟩ = i
  sd : a ++ c = d
  na : a.size = 26
  nb : b.size = 26
  nc : c.size = 10
  nl : l.size = 37
  nv : v.size = 63
  ni : i.size = 68
  nd : d.size = 36
  sl : ∀ x, oneOf x l.data.toList = inL x
  sv : ∀ x, oneOf x v.data.toList = inV x
  si : ∀ x, oneOf x i.data.toList = inI x
  sc : ∀ x, oneOf x c.data.toList = digB x
  sd2 : ∀ x, oneOf x d.data.toList = (smallB x || digB x)
theorem sets : Sets smallS greatS digitS labS varS imgS sdS where
  sm := rsmall_any
  gr := rgreat_any
  di := rdigits_any
  lab := by decide +kernel
  var1 := by decide +kernel
  img := by decide +kernel
  sd := by decide +kernel
  na := rfl
  nb := rfl
  nc := rfl
  nl := rfl
  nv := rfl
  ni := rfl
  nd := rfl
  sl := lab_set
  sv := var_set
  si := img_set
  sc := dig_set
  sd2 := sd_set
end Go.Proofs.Ytphjhlnjfcfdcaa
