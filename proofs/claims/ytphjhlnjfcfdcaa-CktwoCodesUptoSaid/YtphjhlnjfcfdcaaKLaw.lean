/-
  What the laws of version 1 use: a state as the document has it; few pods, and short texts; awake.
-/
import Derived.Test.YtphjhlnjfcfdcaaKRdec2
import Derived.Test.YtphjhlnjfcfdcaaKEncode
import Derived.Test.YtphjhlnjfcfdcaaKRsame
namespace Go.Proofs.Ytphjhlnjfcfdcaa
open Go.ChangeShapes Go.WideShapes Go.ChangeAt Go.RowKit
set_option maxRecDepth 100000

theorem awake13_any (w : World) : Calls Try.prog 34 #[] w fun e w' => e = .returned (.bool true) ∧ Fresh w w' := by
  have HL1 : Hid (∀ W, Calls Try.prog 62 #[.string ⟨#[97, 45, 49]⟩] W fun e w' => e = .returned (.bool true) ∧ W = w') := fun W => label_any ⟨#[97, 45, 49]⟩ W (by decide)
  have HL2 : Hid (∀ W, Calls Try.prog 62 #[.string ⟨#[45, 97]⟩] W fun e w' => e = .returned (.bool false) ∧ W = w') := fun W => label_any ⟨#[45, 97]⟩ W (by decide)
  have HN : Hid (∀ W, Calls Try.prog 63 #[.string ⟨#[97, 46, 98, 45, 99]⟩] W fun e w' => e = .returned (.bool true) ∧ Fresh W w') := fun W => name_any [97, 46, 98, 45, 99] W (by decide)
  have HV := Lib.hid (fun W => var_any W)
  go_enter Try.func34, Try.ntmps34
  go_wp2_with (fail)
  refine (HL1.out _).mono ?_
  rintro e w' ⟨rfl, rfl⟩
  go_wp2_with (fail)
  refine (HL2.out _).mono ?_
  rintro e w' ⟨rfl, rfl⟩
  go_wp2_with (fail)
  refine (HN.out _).mono ?_
  rintro e w1 ⟨rfl, hf⟩
  go_wp2_with (fail)
  refine (HV.out _).mono ?_
  rintro e w' ⟨rfl, rfl⟩
  go_wp2
  go_ret
  exact ⟨rfl, hf⟩
theorem ex_bytes : tx (enc1L 1 []) = ⟨#[0, 0, 0, 1, 0, 0]⟩ := by decide +kernel
theorem ex_encode (w : World) : Calls Try.prog 13 #[.agg #[.int .u32 1, .slice none 0 0]] w fun e w' => e = .returned (.tuple #[.string ⟨#[0, 0, 0, 1, 0, 0]⟩, .int .i64 0]) ∧ Fresh w w' := by
  have := encode_ok 1 none [] 0 w (.nil _ _) (by simp) rfl (by decide) (by decide)
  rw [ex_bytes] at this
  exact this
theorem awake17_any (w : World) : Calls Try.prog 10 #[] w fun e w' => e = .returned (.bool true) ∧ Fresh w w' := by
  have H1 := Lib.hid (fun W => ex_encode W)
  have H2 := Lib.hid (fun W => awake_true W)
  have H3 := Lib.hid (fun W => awake13_any W)
  go_enter Try.func10, Try.ntmps10
  go_wp2_with (fail)
  refine (H1.out _).mono ?_
  rintro e w1 ⟨rfl, hf⟩
  have HF := Lib.hid hf
  clear hf
  go_wp2_with (fail)
  refine (H2.out _).mono ?_
  rintro e w2 ⟨rfl, hf⟩
  have HF := Lib.hid (HF.out.trans hf)
  clear hf
  go_wp2_with (fail)
  refine (H3.out _).mono ?_
  rintro e w3 ⟨rfl, hf⟩
  have HF := Lib.hid (HF.out.trans hf)
  clear hf
  go_wp2
  go_ret
  exact ⟨rfl, HF.out⟩

/-! ### few pods, and short texts -/
def P1.w (p : P1) : Nat := 1 + p.file.size + p.name.size + p.image.size
def smA : Nat → List P1 → Bool
  | _, [] => true
  | n, p :: l => if 20000 < n + p.w then false else smA (n + p.w) l
theorem smA_drop {l : List P1} {k : Nat} (h : k < l.length) (n : Nat) : smA n (l.drop k) = if 20000 < n + l[k].w then false else smA (n + l[k].w) (l.drop (k + 1)) := by
  rw [List.drop_eq_getElem_cons h, smA]
theorem smA_fit : ∀ (l : List P1) (n : Nat), smA n l = true → n ≤ 20000 → l.length + n ≤ 20000 ∧ ∀ p ∈ l, p.file.size ≤ 20000 ∧ p.name.size ≤ 20000 ∧ p.image.size ≤ 20000
  | [], n, _, hn => ⟨by simpa using hn, by simp⟩
  | p :: l, n, h, hn => by
    rw [smA] at h
    split at h
    · simp at h
    · rename_i h1
      obtain ⟨h2, h3⟩ := smA_fit l _ h (by omega)
      unfold P1.w at h1 h2
      refine ⟨by rw [List.length_cons]; omega, fun q hq => ?_⟩
      rcases List.mem_cons.1 hq with rfl | hq
      · omega
      · exact h3 q hq
set_option maxHeartbeats 4000000 in
theorem small1_any (seq : Int) (a : Option Addr) (l : List P1) (c : Nat) (w : World) (h : RowAt w a (p1s l)) (hf : ∀ p ∈ l, p.Fit 140737488355328) (hl : l.length ≤ maxLen) :
    Calls Try.prog 9 #[st1 seq a l.length c] w fun e w' => e = .returned (.bool (smA 0 l)) ∧ Fresh w w' := by
  unfold maxLen at hl
  have HROW := Lib.hid h
  have HFT := Lib.hid hf
  have HF0 := Lib.hid ((Fresh.refl w).alloc (.cells #[.int .u32 seq, .slice a l.length c] 25))
  have HC : Hid (smA 0 l = smA 0 (l.drop 0)) := rfl
  dsimp only [st1]
  clear h hf
  generalize smA 0 l = E at *
  go_enter Try.func9, Try.ntmps9
  go_wp2
  generalize w.alloc (.cells #[.int .u32 seq, .slice a l.length c] 25) = W0 at *
  go_loopw [3, 9] (fun a3 a9 wr => ∃ (k n : Nat), a9 = .int .i64 (k : Int) ∧ a3 = .int .i64 (n : Int) ∧ k ≤ l.length ∧ n ≤ 20000 ∧ Hid (E = smA n (l.drop k)) ∧ Hid (Fresh W0 wr)) (fun _ a9 _ => l.length - (intOf a9).toNat)
  case atStart => exact ⟨0, 0, rfl, rfl, Nat.zero_le _, Nat.zero_le _, HC.out, Fresh.refl _⟩
  case round =>
    obtain ⟨k, n, rfl, rfl, hk, hn, HE, HF⟩ := hrel
    by_cases hlt : k < l.length
    · obtain ⟨g, o1, rfl, hc⟩ := p1_form ((HROW.out.move HF0.out).move HF.out) hlt
      obtain ⟨c0, c1, c2, c3⟩ := hc k hlt
      have hfi := HFT.out _ (List.getElem_mem hlt)
      have HSTEP := Lib.hid (HE.out.trans (smA_drop hlt n))
      clear hc
      generalize l[k] = p at *
      obtain ⟨file, name, image, r⟩ := p
      have y1 : file.size ≤ 140737488355328 := hfi.file
      have y2 : name.size ≤ 140737488355328 := hfi.name
      have y3 : image.size ≤ 140737488355328 := hfi.image
      have HW : Hid (P1.w ⟨file, name, image, r⟩ = 1 + file.size + name.size + image.size) := rfl
      have hadd : (n : Int) + (1 + (file.size : Int) + (name.size : Int) + (image.size : Int)) = ((n + (1 + file.size + name.size + image.size) : Nat) : Int) := by omega
      rw [HW.out] at HSTEP
      dsimp only at *
      clear hfi HW
      have HF1 := Lib.hid ((Fresh.refl wr).alloc (.cells #[.string file, .string name, .string image, .int .u8 r] 66))
      have hs2 : n + (1 + file.size + name.size + image.size) ≤ 562949953450000 := by omega
      generalize n + (1 + file.size + name.size + image.size) = s2 at *
      by_cases h2 : 20000 < s2
      · have HR : Hid (E = false) := by rw [Hid, HSTEP.out, if_pos h2]
        clear HSTEP
        go_wp2
        all_goals try (exfalso; omega)
        go_ret
        exact ⟨ret_bool HR.out.symm, (HF0.out.trans HF.out).trans HF1.out⟩
      · have HN : Hid (E = smA s2 (l.drop (k + 1))) := by rw [Hid, HSTEP.out, if_neg h2]
        clear HSTEP
        go_wp2
        all_goals try (exfalso; omega)
        go_roundw
        case rel => exact ⟨k + 1, s2, by simp, rfl, by omega, by omega, HN.out, HF.out.trans HF1.out⟩
        case measure => simp [intOf]; omega
    · obtain rfl : k = l.length := by omega
      have HR : Hid (E = true) := by rw [Hid, HE.out, List.drop_of_length_le (Nat.le_refl _)]; rfl
      go_wp2
      all_goals try (exfalso; omega)
      go_ret
      exact ⟨ret_bool HR.out.symm, HF0.out.trans HF.out⟩
end Go.Proofs.Ytphjhlnjfcfdcaa
