/-
  Are two states of version 1 alike, by the document?
-/
import Derived.Test.YtphjhlnjfcfdcaaKSame
namespace Go.Proofs.Ytphjhlnjfcfdcaa
open Go.ChangeShapes Go.WideShapes Go.ChangeAt Go.RowKit
set_option maxRecDepth 100000

set_option maxHeartbeats 4000000 in
theorem rsame_any (s t : Int) (l m : List P1) (a a' : Option Addr) (cap cap' : Nat) (w : World) (ha : RowAt w a (p1s l)) (ha' : RowAt w a' (p1s m)) (hl : l.length ≤ 4000000) :
    Calls Try.prog 17 #[st1 s a l.length cap, st1 t a' m.length cap'] w fun e w' => e = .returned (.bool (same1 s t l m)) ∧ Fresh w w' := by
  have HE : Hid (same1 s t l m = (decide (s = t) && eqL l m)) := rfl
  have HX := Lib.hid (two_boxes w (.cells #[.int .u32 s, .slice a l.length cap] 30) (.cells #[.int .u32 t, .slice a' m.length cap'] 30))
  have HF0 := Lib.hid HX.out.2.2.1
  have HROW := Lib.hid (ha.move HF0.out)
  have HROW' := Lib.hid (ha'.move HF0.out)
  clear ha ha'
  dsimp only [st1]
  generalize same1 s t l m = R at *
  by_cases hs : s = t
  case neg =>
    have HR : Hid (R = false) := by rw [Hid, HE.out, decide_eq_false hs]; rfl
    have e0 : (s == t) = false := by rw [beq_eq_false_iff_ne]; exact hs
    clear HE
    go_enter Try.func17, Try.ntmps17
    go_wp2
    go_ret
    exact ⟨ret_bool HR.out.symm, HF0.out⟩
  subst hs
  have HR0 : Hid (R = eqL l m) := by rw [Hid, HE.out]; simp
  clear HE
  by_cases hlen : l.length = m.length
  case neg =>
    have HR : Hid (R = false) := by rw [Hid, HR0.out, eqL_len _ _ hlen]
    have e0 : ((l.length : Int) == (m.length : Int)) = false := by rw [beq_eq_false_iff_ne]; omega
    go_enter Try.func17, Try.ntmps17
    go_wp2
    all_goals try (exfalso; omega)
    go_ret
    exact ⟨ret_bool HR.out.symm, HF0.out⟩
  have HN2 : Hid (m.length = l.length) := hlen.symm
  have hd2 := HN2.out
  rw [hd2] at HX HF0 HROW HROW' ⊢
  clear hd2 hlen
  generalize hn : l.length = n at *
  have HNN := Lib.hid hn
  clear hn
  go_enter Try.func17, Try.ntmps17
  go_wp2
  all_goals try (exfalso; omega)
  generalize (w.alloc (.cells #[.int .u32 s, .slice a n cap] 30)).alloc (.cells #[.int .u32 s, .slice a' n cap'] 30) = W0 at *
  obtain ⟨b, hb⟩ : ∃ b, b = w.heap.size := ⟨_, rfl⟩
  rw [← hb] at HX ⊢
  clear hb
  go_loopw [5] (fun a5 wr => ∃ (k : Nat), a5 = .int .i64 (k : Int) ∧ k ≤ n ∧ Hid (R = eqL (l.drop k) (m.drop k)) ∧ Hid (Fresh W0 wr)) (fun a5 _ => n - (intOf a5).toNat)
  case atStart => exact ⟨0, rfl, Nat.zero_le _, HR0.out, Fresh.refl _⟩
  case round =>
    obtain ⟨k, rfl, hk, HE, HF⟩ := hrel
    obtain ⟨b0, b1, _⟩ := st1_box (HF.out.at HX.out.1)
    obtain ⟨d0, d1, _⟩ := st1_box (HF.out.at HX.out.2.1)
    by_cases hltn : k < n
    · have hlt : k < l.length := by rw [HNN.out]; exact hltn
      have hlt' : k < m.length := by rw [HN2.out]; exact hltn
      obtain ⟨g, o1, rfl, hc⟩ := p1_form (HROW.out.move HF.out) hlt
      obtain ⟨g', o1', rfl, hc'⟩ := p1_form (HROW'.out.move HF.out) hlt'
      obtain ⟨c0, c1, c2, c3⟩ := hc k hlt
      obtain ⟨y0, y1, y2, y3⟩ := hc' k hlt'
      have HST : Hid (R = (P1.eqB l[k] m[k] && eqL (l.drop (k + 1)) (m.drop (k + 1)))) := HE.out.trans (eqL_drop hlt hlt')
      clear hc hc'
      generalize l[k] = p at *
      generalize m[k] = q at *
      clear hlt hlt'
      obtain ⟨s0, s1, s2, n3⟩ := p
      obtain ⟨s0', s1', s2', n3'⟩ := q
      dsimp only at *
      have i1 : (0 : Int) ≤ (k : Int) := by omega
      have i2 : (k : Int) < (n : Int) := by omega
      have HEB : Hid (P1.eqB ⟨s0, s1, s2, n3⟩ ⟨s0', s1', s2', n3'⟩ = (decide (s0 = s0') && (decide (s1 = s1') && (decide (s2 = s2') && decide (n3 = n3'))))) := rfl
      generalize P1.eqB ⟨s0, s1, s2, n3⟩ ⟨s0', s1', s2', n3'⟩ = SC at *
      have HNO : Hid (SC = false → R = false) := fun h => by rw [HST.out, h]; rfl
      have HGO : Hid (SC = true → R = eqL (l.drop (k + 1)) (m.drop (k + 1))) := fun h => by rw [HST.out, h]; rfl
      clear HST
      by_cases h1 : s0 = s0'
      case neg =>
        have HR := Lib.hid (HNO.out (by rw [HEB.out, decide_eq_false h1]; rfl))
        have e1 := tl_ne h1
        clear HEB h1 HNO HGO
        go_wp2_with (fail)
        go_quiet (fail)
        go_wp2
        all_goals try (exfalso; omega)
        go_ret
        exact ⟨ret_bool HR.out.symm, (HF0.out.trans HF.out).trans (fresh_drewN _ _)⟩
      subst h1
      by_cases h2 : s1 = s1'
      case neg =>
        have HR := Lib.hid (HNO.out (by rw [HEB.out, decide_eq_false h2]; simp))
        have e1 := tl_ne h2
        clear HEB h2 HNO HGO
        go_wp2_with (fail)
        go_quiet (fail)
        go_wp2
        all_goals try (exfalso; omega)
        go_ret
        exact ⟨ret_bool HR.out.symm, (HF0.out.trans HF.out).trans (fresh_drewN _ _)⟩
      subst h2
      by_cases h3 : s2 = s2'
      case neg =>
        have HR := Lib.hid (HNO.out (by rw [HEB.out, decide_eq_false h3]; simp))
        have e1 := tl_ne h3
        clear HEB h3 HNO HGO
        go_wp2_with (fail)
        go_quiet (fail)
        go_wp2
        all_goals try (exfalso; omega)
        go_ret
        exact ⟨ret_bool HR.out.symm, (HF0.out.trans HF.out).trans (fresh_drewN _ _)⟩
      subst h3
      by_cases h4 : n3 = n3'
      case neg =>
        have HR := Lib.hid (HNO.out (by rw [HEB.out, decide_eq_false h4]; simp))
        have e1 : (n3 == n3') = false := by rw [beq_eq_false_iff_ne]; exact h4
        clear HEB h4 HNO HGO
        go_wp2_with (fail)
        go_quiet (fail)
        go_wp2
        all_goals try (exfalso; omega)
        go_ret
        exact ⟨ret_bool HR.out.symm, (HF0.out.trans HF.out).trans (fresh_drewN _ _)⟩
      subst h4
      have HN := Lib.hid (HGO.out (by rw [HEB.out]; simp))
      clear HEB HNO HGO
      go_wp2_with (fail)
      go_quiet (fail)
      go_wp2
      all_goals try (exfalso; omega)
      go_roundw
      case rel => exact ⟨k + 1, by simp, by omega, HN.out, HF.out.trans (fresh_drewN _ _)⟩
      case measure => simp [intOf]; omega
    · obtain rfl : k = n := by omega
      have HR : Hid (R = true) := by rw [Hid, HE.out, List.drop_of_length_le (by rw [HNN.out]; exact Nat.le_refl _), List.drop_of_length_le (by rw [HN2.out]; exact Nat.le_refl _)]; rfl
      go_wp2
      all_goals try (exfalso; omega)
      go_ret
      exact ⟨ret_bool HR.out.symm, HF0.out.trans HF.out⟩
end Go.Proofs.Ytphjhlnjfcfdcaa
