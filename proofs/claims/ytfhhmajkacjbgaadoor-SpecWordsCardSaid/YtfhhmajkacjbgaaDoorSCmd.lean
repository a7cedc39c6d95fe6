/-
  What is wrong with a command's texts.
-/
import Derived.Test.YtfhhmajkacjbgaaDoorSFun
namespace Go.Proofs.YtfhhmajkacjbgaaDoor
open Go.ChangeShapes Go.WideShapes Go.ChangeAt Go.RowKit
set_option maxRecDepth 100000 in
theorem cmdFault_any (l : List ByteArray) (a : Option Addr) (c : Nat) (w : World) (hT : Tabs w) (h : RowAt w a (tcells l)) (hl : l.length ≤ 1000000) (hn : ∀ s ∈ l, s.size ≤ 1000000) :
    Calls Tryd.prog 52 #[.slice a l.length c] w fun e w' => e = .returned (.int .i64 (cmdE l)) ∧ Fresh w w' := by
  have HT := Lib.hid hT
  have HR := Lib.hid h
  have HN := Lib.hid hn
  clear hT h hn
  go_enter Tryd.func52, Tryd.ntmps52
  go_wp2
  go_loopw [8] (fun a8 wr => ∃ (k : Nat), a8 = .int .i64 (k : Int) ∧ k ≤ l.length ∧ Hid (cmdE l = cmdE (l.drop k)) ∧ Hid (Fresh w wr)) (fun a8 _ => l.length - (intOf a8).toNat)
  case atStart => exact ⟨0, rfl, Nat.zero_le _, rfl, Fresh.refl _⟩
  case round =>
    obtain ⟨k, rfl, hk, HE, HF⟩ := hrel
    by_cases hlt : k < l.length
    · obtain ⟨g, o1, rfl, hc⟩ := trow_form (HR.out.move HF.out) hlt
      have c0 := hc k hlt
      have HC := Lib.hid (textFault_any l[k] wr (HN.out _ (List.getElem_mem hlt)) (HT.out.move HF.out))
      have HST : Hid (cmdE l = if textE l[k] = 0 then cmdE (l.drop (k + 1)) else textE l[k]) := by
        rw [Hid, HE.out, List.drop_eq_getElem_cons hlt, cmdE]
      clear hc
      generalize l[k] = x at *
      generalize textE x = ec at *
      by_cases hx : ec = 0
      · have HN2 : Hid (cmdE l = cmdE (l.drop (k + 1))) := by rw [Hid, HST.out, if_pos hx]
        subst hx
        clear HST
        go_wp2_with (fail)
        refine HC.out.mono ?_
        rintro e w1 ⟨rfl, hf⟩
        have HF2 := Lib.hid (HF.out.trans hf)
        clear hf
        go_wp2
        all_goals try (exfalso; omega)
        go_roundw
        case rel => exact ⟨k + 1, by simp, by omega, HN2.out, HF2.out⟩
        case measure => simp [intOf]; omega
      · have HR2 : Hid (cmdE l = ec) := by rw [Hid, HST.out, if_neg hx]
        have e0 : (ec == 0) = false := by rw [beq_eq_false_iff_ne]; exact hx
        have e1 : (ec != 0) = true := by simp [hx]
        clear HST
        go_wp2_with (fail)
        refine HC.out.mono ?_
        rintro e w1 ⟨rfl, hf⟩
        have HF2 := Lib.hid (HF.out.trans hf)
        clear hf
        go_wp2
        all_goals try (exfalso; omega)
        go_ret
        exact ⟨ret_int HR2.out.symm, HF2.out⟩
    · obtain rfl : k = l.length := by omega
      have HR2 : Hid (cmdE l = 0) := by rw [Hid, HE.out, List.drop_length]; rfl
      go_wp2
      all_goals try (exfalso; omega)
      go_ret
      exact ⟨ret_int HR2.out.symm, HF.out⟩
end Go.Proofs.YtfhhmajkacjbgaaDoor
