/-
  The document's Label, Variable and Image.
-/
import Derived.Test.YtphjhlnjfcfdcaaSDns
import Derived.Deep.DrawnRows
namespace Go.Proofs.Ytphjhlnjfcfdcaa
open Go.ChangeShapes Go.WideShapes Go.ChangeAt Go.RowKit

theorem some_ne (c : UInt8) : (some c != some (45 : UInt8)) = decide (¬ ((c.toNat : Int) = 45)) := by
  rw [Bool.eq_iff_iff]
  simp only [bne_iff_ne, ne_eq, Option.some.injEq, decide_eq_true_eq, ← UInt8.toNat_inj]
  show ¬ c.toNat = 45 ↔ _
  omega
set_option maxRecDepth 100000 in
theorem rlabel_any (s : ByteArray) (w : World) (hs : s.size ≤ 4000000) : Calls Try.prog 53 #[.string s] w fun e w' => e = .returned (.bool (labB s.data.toList)) ∧ w = w' := by
  have HSZ : Hid (s.data.toList.length = s.size) := by rw [Hid]; simp
  have HL : Hid (labB s.data.toList = ((decide (1 ≤ s.size) && decide (s.size ≤ 63)) && (s.data.toList.head? != some 45 && (s.data.toList.getLast? != some 45 && s.data.toList.all inL)))) := by
    rw [Hid, labB, HSZ.out]
  have HS := sets
  revert HS
  generalize smallS = a; generalize greatS = b; generalize digitS = c; generalize labS = l; generalize varS = v; generalize imgS = i; generalize sdS = d
  intro HS
  have HSM := Lib.hid HS.sm
  have HDI := Lib.hid HS.di
  have q0 := HS.lab
  have z1 := HS.na
  have z2 := HS.nc
  have z3 := HS.nl
  have HRA := Lib.hid (fun W => rall_any s l W hs (by omega))
  have HALL : Hid ((s.data.toList.all fun x => oneOf x l.data.toList) = s.data.toList.all inL) := by rw [Hid]; congr 1; funext x; exact HS.sl x
  rw [HALL.out] at HRA
  clear HS HALL
  by_cases h1 : 1 ≤ s.size
  · by_cases h2 : s.size ≤ 63
    · have hlast : s.size - 1 < s.size := by omega
      have h0 : 0 < s.size := by omega
      have HH : Hid (s.data.toList.head? = some s[0]) := by
        rw [Hid, List.head?_eq_getElem?, List.getElem?_eq_getElem (by rw [HSZ.out]; exact h0)]; rfl
      have HE : Hid (s.data.toList.getLast? = some s[s.size - 1]) := by
        rw [Hid, List.getLast?_eq_getElem?, HSZ.out, List.getElem?_eq_getElem (by rw [HSZ.out]; exact hlast)]; rfl
      have e1 : ((s.size : Int) - 1) = ((s.size - 1 : Nat) : Int) := by omega
      have HL2 : Hid (labB s.data.toList = (some s[0] != some 45 && (some s[s.size - 1] != some 45 && s.data.toList.all inL))) := by
        rw [Hid, HL.out, HH.out, HE.out, decide_eq_true h1, decide_eq_true h2]; rfl
      have B0 := Lib.hid (some_ne s[0])
      have B1 := Lib.hid (some_ne s[s.size - 1])
      clear HL HH HE hs
      generalize labB s.data.toList = r at *
      generalize s.data.toList.all inL = al at *
      cases al
      all_goals go_enter Try.func53, Try.ntmps53
      all_goals go_wp2_with (first | (go_at_call 67; refine (HSM.out _).mono ?_; rintro e w' ⟨rfl, rfl⟩) | (go_at_call 69; refine (HDI.out _).mono ?_; rintro e w' ⟨rfl, rfl⟩) | (go_at_call 66; refine (HRA.out _).mono ?_; rintro e w' ⟨rfl, rfl⟩))
      all_goals go_ret
      all_goals refine ⟨?_, rfl⟩
      all_goals refine ret_bool ?_
      all_goals rw [HL2.out, B0.out, B1.out]
      all_goals (first | (simp [*]; done) | (rw [Bool.eq_iff_iff]; simp [*]; done))
    · have HL2 : Hid (labB s.data.toList = false) := by
        rw [Hid, HL.out, decide_eq_false h2]; simp
      clear HL hs
      generalize labB s.data.toList = r at *
      go_enter Try.func53, Try.ntmps53
      go_wp2_with (fail)
      all_goals go_ret
      all_goals exact ⟨ret_bool HL2.out.symm, rfl⟩
  · have HL2 : Hid (labB s.data.toList = false) := by
      rw [Hid, HL.out, decide_eq_false h1]; simp
    clear HL hs
    generalize labB s.data.toList = r at *
    go_enter Try.func53, Try.ntmps53
    go_wp2_with (fail)
    all_goals go_ret
    all_goals exact ⟨ret_bool HL2.out.symm, rfl⟩
end Go.Proofs.Ytphjhlnjfcfdcaa
