/-
  What dns.Label returns, for every text; dns.Variable, for every short text.
-/
import Derived.Test.YtphjhlnjfcfdcaaDFun
namespace Go.Proofs.Ytphjhlnjfcfdcaa
open Go.ChangeShapes Go.WideShapes Go.ChangeAt Go.RowKit

set_option maxRecDepth 100000 in
theorem label_any (s : ByteArray) (w : World) (hs : s.size ≤ maxLen) : Calls Try.prog 62 #[.string s] w fun e w' => e = .returned (.bool (labB s.data.toList)) ∧ w = w' := by
  have HSZ : Hid (s.data.toList.length = s.size) := by rw [Hid]; simp
  have HF := Lib.hid (fun W => fits_any s 63 W hs)
  have HL : Hid (labB s.data.toList = ((decide (1 ≤ s.size) && decide (s.size ≤ 63)) && (s.data.toList.head? != some 45 && (s.data.toList.getLast? != some 45 && s.data.toList.all inL)))) := by
    rw [Hid, labB, HSZ.out]
  cases hf : (decide (1 ≤ s.size) && decide (s.size ≤ 63)) with
  | false =>
    rw [hf] at HF HL
    clear hf hs
    generalize labB s.data.toList = r at *
    go_enter Try.func62, Try.ntmps62
    go_wp2_with (go_at_call 84; refine (HF.out _).mono ?_; rintro e w' ⟨rfl, rfl⟩)
    go_ret
    exact ⟨ret_bool (by rw [HL.out]; rfl), rfl⟩
  | true =>
    rw [hf] at HF HL
    simp only [Bool.and_eq_true, decide_eq_true_eq] at hf
    obtain ⟨h1, h2⟩ := hf
    have HA := Lib.hid (fun W => allL_any s W (by omega))
    have hlast : s.size - 1 < s.size := by omega
    have h0 : 0 < s.size := by omega
    have HH : Hid (s.data.toList.head? = some s[0]) := by
      rw [Hid, List.head?_eq_getElem?, List.getElem?_eq_getElem (by rw [HSZ.out]; exact h0)]; rfl
    have HE : Hid (s.data.toList.getLast? = some s[s.size - 1]) := by
      rw [Hid, List.getLast?_eq_getElem?, HSZ.out, List.getElem?_eq_getElem (by rw [HSZ.out]; exact hlast)]; rfl
    have e1 : ((s.size : Int) - 1) = ((s.size - 1 : Nat) : Int) := by omega
    have HL2 : Hid (labB s.data.toList = (some s[0] != some 45 && (some s[s.size - 1] != some 45 && s.data.toList.all inL))) := by
      rw [Hid, HL.out, HH.out, HE.out]; rfl
    have key : ∀ c : UInt8, (some c != some (45 : UInt8)) = decide (¬ ((c.toNat : Int) = 45)) := fun c => by
      rw [Bool.eq_iff_iff]
      simp only [bne_iff_ne, ne_eq, Option.some.injEq, decide_eq_true_eq, ← UInt8.toNat_inj]
      show ¬ c.toNat = 45 ↔ _
      omega
    have B0 := Lib.hid (key s[0])
    have B1 := Lib.hid (key s[s.size - 1])
    clear HL HH HE hs key
    generalize labB s.data.toList = r at *
    generalize s.data.toList.all inL = al at *
    go_enter Try.func62, Try.ntmps62
    go_wp2_with (first | (go_at_call 84; refine (HF.out _).mono ?_; rintro e w' ⟨rfl, rfl⟩) | (go_at_call 85; refine (HA.out _).mono ?_; rintro e w' ⟨rfl, rfl⟩))
    all_goals go_ret
    all_goals refine ⟨?_, rfl⟩
    all_goals refine ret_bool ?_
    all_goals rw [HL2.out, B0.out, B1.out]
    all_goals simp [*]
set_option maxRecDepth 100000 in
theorem var_any (w : World) : Calls Try.prog 64 #[.string ⟨#[95, 88]⟩] w fun e w' => e = .returned (.bool true) ∧ w = w' := by
  have HF : Hid (∀ W, Calls Try.prog 84 #[.string ⟨#[95, 88]⟩, .int .i64 63] W fun e w' => e = .returned (.bool true) ∧ W = w') := fun W => fits_any ⟨#[95, 88]⟩ 63 W (by decide)
  have HD : Hid (∀ W, Calls Try.prog 88 #[.int .u8 95] W fun e w' => e = .returned (.bool false) ∧ W = w') := fun W => dig_any 95 W
  have HA : Hid (∀ W, Calls Try.prog 85 #[.string ⟨#[95, 88]⟩, .func (.func 89) #[] #[]] W fun e w' => e = .returned (.bool true) ∧ W = w') := fun W => allV_any ⟨#[95, 88]⟩ W (by decide)
  go_enter Try.func64, Try.ntmps64
  go_wp2_with (first | (go_at_call 84; refine (HF.out _).mono ?_; rintro e w' ⟨rfl, rfl⟩) | (go_at_call 88; refine (HD.out _).mono ?_; rintro e w' ⟨rfl, rfl⟩) | (go_at_call 85; refine (HA.out _).mono ?_; rintro e w' ⟨rfl, rfl⟩))
  go_ret
  exact ⟨rfl, rfl⟩
end Go.Proofs.Ytphjhlnjfcfdcaa
