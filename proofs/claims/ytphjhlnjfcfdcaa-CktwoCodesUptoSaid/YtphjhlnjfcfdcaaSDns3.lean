/-
  The document's Variable and Image.
-/
import Derived.Test.YtphjhlnjfcfdcaaSDns2
import Derived.Test.YtphjhlnjfcfdcaaSTexts
import Derived.Deep.QuietTactic
import Derived.BigQuiet
namespace Go.Proofs.Ytphjhlnjfcfdcaa
open Go.ChangeShapes Go.WideShapes Go.ChangeAt Go.RowKit

set_option maxRecDepth 100000 in
set_option maxHeartbeats 1000000 in
theorem rimage_drew (s : ByteArray) (w : World) (hs : s.size ≤ 4000000) : Calls Try.prog 36 #[.string s] w fun e w' => e = .returned (.bool (imgB s.data.toList)) ∧ ∃ m, w' = w.drewN m := by
  have HSZ : Hid (s.data.toList.length = s.size) := by rw [Hid]; simp
  have HS := sets
  revert HS
  generalize smallS = a; generalize greatS = b; generalize digitS = c; generalize labS = l; generalize varS = v; generalize imgS = i; generalize sdS = d
  intro HS
  have HSM := Lib.hid HS.sm
  have HGR := Lib.hid HS.gr
  have HDI := Lib.hid HS.di
  have HL : Hid (imgB s.data.toList = ((decide (1 ≤ s.size) && decide (s.size ≤ 255)) && ((smallB (s.data.toList.headD 0) || digB (s.data.toList.headD 0)) && s.data.toList.all inI))) := by
    rw [Hid, imgB, HSZ.out]
  have q0 := HS.img
  have q1 := HS.sd
  have z1 := HS.na
  have z2 := HS.nb
  have z3 := HS.nc
  have z4 := HS.ni
  have z5 := HS.nd
  have HRA := Lib.hid (fun W => rall_any s i W hs (by omega))
  have HALL : Hid ((s.data.toList.all fun x => oneOf x i.data.toList) = s.data.toList.all inI) := by rw [Hid]; congr 1; funext x; exact HS.si x
  rw [HALL.out] at HRA
  have HRI := Lib.hid (fun x W => rin_any x d W (by omega))
  have HIN := Lib.hid HS.sd2
  clear HS HALL
  by_cases h1 : 1 ≤ s.size
  · by_cases h2 : s.size ≤ 255
    · have h0 : 0 < s.size := by omega
      have HH : Hid (s.data.toList.headD 0 = s[0]) := by
        rw [Hid, List.headD_eq_head?_getD, List.head?_eq_getElem?, List.getElem?_eq_getElem (by rw [HSZ.out]; exact h0)]; rfl
      have HL2 : Hid (imgB s.data.toList = ((smallB (s[0]) || digB (s[0])) && s.data.toList.all inI)) := by
        rw [Hid, HL.out, HH.out, decide_eq_true h1, decide_eq_true h2]; rfl
      have HRI0 := Lib.hid (fun W => HRI.out s[0] W)
      rw [HIN.out] at HRI0
      clear HL HH hs HRI HIN
      generalize imgB s.data.toList = r at *
      generalize s.data.toList.all inI = al at *
      generalize (smallB s[0] || digB s[0]) = dg at *
      cases al
      all_goals go_enter Try.func36, Try.ntmps36
      all_goals go_wp2_with (fail)
      all_goals (have cb1 : decide ((1 : Int) ≤ (s.size : Int)) = true := decide_eq_true (by omega); have cb2 : decide ((s.size : Int) ≤ 255) = true := decide_eq_true (by omega); have ib : (0 : Int) < (s.size : Int) := by omega)
      all_goals go_quiet (first | (exact Calls.quiet_of_same ((HSM.out _).mono fun e w' h => ⟨h.1, h.2.symm⟩)) | (exact Calls.quiet_of_same ((HGR.out _).mono fun e w' h => ⟨h.1, h.2.symm⟩)) | (exact Calls.quiet_of_same ((HDI.out _).mono fun e w' h => ⟨h.1, h.2.symm⟩)) | (exact Calls.quiet_of_same ((HRA.out _).mono fun e w' h => ⟨h.1, h.2.symm⟩)) | (exact Calls.quiet_of_same ((HRI0.out _).mono fun e w' h => ⟨h.1, h.2.symm⟩)))
      all_goals go_wp2
      all_goals go_ret
      all_goals refine ⟨?_, _, rfl⟩
      all_goals refine ret_bool ?_
      all_goals rw [HL2.out]
      all_goals (cases dg <;> simp)
    · have HL2 : Hid (imgB s.data.toList = false) := by
        rw [Hid, HL.out, decide_eq_false h2]; simp
      clear HL hs
      generalize imgB s.data.toList = r at *
      go_enter Try.func36, Try.ntmps36
      go_wp2_with (fail)
      have cb1 : decide ((1 : Int) ≤ (s.size : Int)) = true := decide_eq_true (by omega)
      have cb2 : decide ((s.size : Int) ≤ 255) = false := decide_eq_false (by omega)
      go_quiet (fail)
      go_wp2
      go_ret
      exact ⟨ret_bool HL2.out.symm, _, rfl⟩
  · have HL2 : Hid (imgB s.data.toList = false) := by
      rw [Hid, HL.out, decide_eq_false h1]; simp
    clear HL hs
    generalize imgB s.data.toList = r at *
    go_enter Try.func36, Try.ntmps36
    go_wp2_with (fail)
    have cb1 : decide ((1 : Int) ≤ (s.size : Int)) = false := decide_eq_false (by omega)
    go_quiet (fail)
    go_wp2
    go_ret
    exact ⟨ret_bool HL2.out.symm, _, rfl⟩
theorem rimage_any (s : ByteArray) (w : World) (hs : s.size ≤ 4000000) : Calls Try.prog 36 #[.string s] w fun e w' => e = .returned (.bool (imgB s.data.toList)) ∧ Fresh w w' :=
  (rimage_drew s w hs).mono fun e w' ⟨h, m, hm⟩ => ⟨h, by rw [hm]; exact fresh_drewN _ _⟩
end Go.Proofs.Ytphjhlnjfcfdcaa
