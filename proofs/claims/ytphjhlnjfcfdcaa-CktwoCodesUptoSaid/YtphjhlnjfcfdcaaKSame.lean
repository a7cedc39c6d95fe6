/-
  Are two states of version 1 alike, by package ckone?
-/
import Derived.Test.YtphjhlnjfcfdcaaKBase
import Derived.Deep.QuietTactic
import Derived.BigQuiet
namespace Go.Proofs.Ytphjhlnjfcfdcaa
open Go.ChangeShapes Go.WideShapes Go.ChangeAt Go.RowKit
set_option maxRecDepth 100000

set_option maxHeartbeats 2000000 in
theorem alike_any (p q : P1) (w : World) : Calls Try.prog 44 #[p.val, q.val] w fun e w' => e = .returned (.bool (P1.eqB p q)) ∧ Fresh w w' := by
  obtain ⟨file, name, image, r⟩ := p
  obtain ⟨file', name', image', r'⟩ := q
  have HE : Hid (P1.eqB ⟨file, name, image, r⟩ ⟨file', name', image', r'⟩ = (decide (file = file') && (decide (name = name') && (decide (image = image') && decide (r = r'))))) := rfl
  have HF := Lib.hid (((Fresh.refl w).alloc (.cells #[.string file, .string name, .string image, .int .u8 r] 66)).alloc (.cells #[.string file', .string name', .string image', .int .u8 r'] 66))
  dsimp only [P1.val]
  generalize P1.eqB ⟨file, name, image, r⟩ ⟨file', name', image', r'⟩ = E at *
  by_cases h1 : file = file'
  case neg =>
    have HR : Hid (E = false) := by rw [Hid, HE.out, decide_eq_false h1]; rfl
    have e1 := tl_ne h1
    clear HE h1
    go_enter Try.func44, Try.ntmps44
    go_wp2
    go_ret
    exact ⟨ret_bool HR.out.symm, HF.out⟩
  subst h1
  by_cases h2 : name = name'
  case neg =>
    have HR : Hid (E = false) := by rw [Hid, HE.out, decide_eq_false h2]; simp
    have e1 := tl_ne h2
    clear HE h2
    go_enter Try.func44, Try.ntmps44
    go_wp2
    go_ret
    exact ⟨ret_bool HR.out.symm, HF.out⟩
  subst h2
  by_cases h3 : image = image'
  case neg =>
    have HR : Hid (E = false) := by rw [Hid, HE.out, decide_eq_false h3]; simp
    have e1 := tl_ne h3
    clear HE h3
    go_enter Try.func44, Try.ntmps44
    go_wp2
    go_ret
    exact ⟨ret_bool HR.out.symm, HF.out⟩
  subst h3
  by_cases h4 : r = r'
  case neg =>
    have HR : Hid (E = false) := by rw [Hid, HE.out, decide_eq_false h4]; simp
    have e1 : (r == r') = false := by rw [beq_eq_false_iff_ne]; exact h4
    clear HE h4
    go_enter Try.func44, Try.ntmps44
    go_wp2
    go_ret
    exact ⟨ret_bool HR.out.symm, HF.out⟩
  subst h4
  have HR : Hid (E = true) := by rw [Hid, HE.out]; simp
  clear HE
  go_enter Try.func44, Try.ntmps44
  go_wp2
  go_ret
  exact ⟨ret_bool HR.out.symm, HF.out⟩
set_option maxHeartbeats 4000000 in
theorem eqFunc_any (l m : List P1) (a a' : Option Addr) (cap cap' : Nat) (w : World) (ha : RowAt w a (p1s l)) (ha' : RowAt w a' (p1s m)) (hl : l.length ≤ 4000000) :
    Calls Try.prog 45 #[.slice a l.length cap, .slice a' m.length cap', .func (.func 44) #[] #[]] w fun e w' => e = .returned (.bool (eqL l m)) ∧ Fresh w w' := by
  have HROW := Lib.hid ha
  have HROW' := Lib.hid ha'
  clear ha ha'
  obtain ⟨R, hR⟩ : ∃ R, R = eqL l m := ⟨_, rfl⟩
  rw [← hR]
  have HR0 := Lib.hid hR
  clear hR
  by_cases hlen : l.length = m.length
  case neg =>
    have HR : Hid (R = false) := by rw [Hid, HR0.out, eqL_len _ _ hlen]
    have e0 : ((l.length : Int) == (m.length : Int)) = false := by rw [beq_eq_false_iff_ne]; omega
    go_enter Try.func45, Try.ntmps45
    go_wp2
    all_goals try (exfalso; omega)
    go_ret
    exact ⟨ret_bool HR.out.symm, Fresh.refl _⟩
  have HN2 : Hid (m.length = l.length) := hlen.symm
  have hd2 := HN2.out
  rw [hd2]
  clear hd2 hlen
  generalize hn : l.length = n at *
  have HNN := Lib.hid hn
  clear hn
  go_enter Try.func45, Try.ntmps45
  go_wp2
  all_goals try (exfalso; omega)
  go_loopw [17] (fun a17 wr => ∃ (k : Nat), a17 = .int .i64 (k : Int) ∧ k ≤ n ∧ Hid (R = eqL (l.drop k) (m.drop k)) ∧ Hid (Fresh w wr)) (fun a17 _ => n - (intOf a17).toNat)
  case atStart => exact ⟨0, rfl, Nat.zero_le _, HR0.out, Fresh.refl _⟩
  case round =>
    obtain ⟨k, rfl, hk, HE, HF⟩ := hrel
    by_cases hltn : k < n
    · have hlt : k < l.length := by rw [HNN.out]; exact hltn
      have hlt' : k < m.length := by rw [HN2.out]; exact hltn
      obtain ⟨g, o1, rfl, hc⟩ := p1_form (HROW.out.move HF.out) hlt
      obtain ⟨g', o1', rfl, hc'⟩ := p1_form (HROW'.out.move HF.out) hlt'
      obtain ⟨c0, c1, c2, c3⟩ := hc k hlt
      obtain ⟨y0, y1, y2, y3⟩ := hc' k hlt'
      have HST : Hid (R = (P1.eqB l[k] m[k] && eqL (l.drop (k + 1)) (m.drop (k + 1)))) := HE.out.trans (eqL_drop hlt hlt')
      have HCALL := Lib.hid (fun W => alike_any l[k] m[k] W)
      have lt1 : g' < wr.heap.size := World.block_lt_of_cell? wr _ y0
      clear hc hc'
      generalize P1.eqB l[k] m[k] = SC at *
      generalize l[k] = p at *
      generalize m[k] = q at *
      clear hlt hlt'
      obtain ⟨s0, s1, s2, n3⟩ := p
      obtain ⟨s0', s1', s2', n3'⟩ := q
      dsimp only [P1.val] at *
      have i1 : (0 : Int) ≤ (k : Int) := by omega
      have i2 : (k : Int) < (n : Int) := by omega
      have HFA := Lib.hid (((Fresh.refl wr).alloc (.cells #[.string s0, .string s1, .string s2, .int .u8 n3] 66)).alloc (.cells #[.string s0', .string s1', .string s2', .int .u8 n3'] 66))
      have HC2 := Lib.hid (HCALL.out ((wr.alloc (.cells #[.string s0, .string s1, .string s2, .int .u8 n3] 66)).alloc (.cells #[.string s0', .string s1', .string s2', .int .u8 n3'] 66)))
      clear HCALL
      cases SC with
      | false =>
        have HR : Hid (R = false) := by rw [Hid, HST.out]; rfl
        clear HST
        go_wp2_with (fail)
        all_goals try (exfalso; omega)
        refine HC2.out.mono ?_
        rintro e W1 ⟨rfl, hf⟩
        have HF2 := Lib.hid ((HF.out.trans HFA.out).trans hf)
        clear hf
        go_wp2
        all_goals try (exfalso; omega)
        go_ret
        exact ⟨ret_bool HR.out.symm, HF2.out⟩
      | true =>
        have HN : Hid (R = eqL (l.drop (k + 1)) (m.drop (k + 1))) := by rw [Hid, HST.out]; rfl
        clear HST
        go_wp2_with (fail)
        all_goals try (exfalso; omega)
        refine HC2.out.mono ?_
        rintro e W1 ⟨rfl, hf⟩
        have HF2 := Lib.hid ((HF.out.trans HFA.out).trans hf)
        clear hf
        go_wp2
        all_goals try (exfalso; omega)
        go_roundw
        case rel => exact ⟨k + 1, by simp, by omega, HN.out, HF2.out⟩
        case measure => simp [intOf]; omega
    · obtain rfl : k = n := by omega
      have HR : Hid (R = true) := by rw [Hid, HE.out, List.drop_of_length_le (by rw [HNN.out]; exact Nat.le_refl _), List.drop_of_length_le (by rw [HN2.out]; exact Nat.le_refl _)]; rfl
      go_wp2
      all_goals try (exfalso; omega)
      go_ret
      exact ⟨ret_bool HR.out.symm, HF.out⟩
def same1 (s t : Int) (l m : List P1) : Bool := decide (s = t) && eqL l m
set_option maxHeartbeats 4000000 in
theorem same_any (s t : Int) (l m : List P1) (a a' : Option Addr) (cap cap' : Nat) (w : World) (ha : RowAt w a (p1s l)) (ha' : RowAt w a' (p1s m)) (hl : l.length ≤ 4000000) :
    Calls Try.prog 16 #[st1 s a l.length cap, st1 t a' m.length cap'] w fun e w' => e = .returned (.bool (same1 s t l m)) ∧ Fresh w w' := by
  have HE : Hid (same1 s t l m = (decide (s = t) && eqL l m)) := rfl
  have HX := Lib.hid (two_boxes w (.cells #[.int .u32 s, .slice a l.length cap] 25) (.cells #[.int .u32 t, .slice a' m.length cap'] 25))
  have HEF := Lib.hid (eqFunc_any l m a a' cap cap' _ (ha.move HX.out.2.2.1) (ha'.move HX.out.2.2.1) hl)
  have HF := Lib.hid HX.out.2.2.1
  clear HX ha ha' hl
  dsimp only [st1]
  generalize same1 s t l m = R at *
  generalize eqL l m = SL at *
  by_cases hs : s = t
  case neg =>
    have HR : Hid (R = false) := by rw [Hid, HE.out, decide_eq_false hs]; rfl
    have e0 : (s == t) = false := by rw [beq_eq_false_iff_ne]; exact hs
    clear HEF HE
    go_enter Try.func16, Try.ntmps16
    go_wp2
    go_ret
    exact ⟨ret_bool HR.out.symm, HF.out⟩
  subst hs
  have HR : Hid (R = SL) := by rw [Hid, HE.out]; simp
  clear HE
  go_enter Try.func16, Try.ntmps16
  go_wp2_with (fail)
  refine HEF.out.mono ?_
  rintro e W1 ⟨rfl, hf⟩
  have hf := Lib.hid (HF.out.trans hf)
  go_wp2
  go_ret
  exact ⟨ret_bool HR.out.symm, hf.out⟩
end Go.Proofs.Ytphjhlnjfcfdcaa
