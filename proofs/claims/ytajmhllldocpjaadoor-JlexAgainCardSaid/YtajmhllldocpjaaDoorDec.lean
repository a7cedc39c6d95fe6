/-
  The law's decimal: a whole number's digits.
-/
import Derived.Test.YtajmhllldocpjaaDoorAg2
import Derived.IntWalk
import Derived.Lib.Strings
import Derived.Deep.DeepCutAuto
import Derived.Deep.CutRange
import Derived.Deep.CutBlock
namespace Go.Proofs.YtajmhllldocpjaaDoor
open Go.ChangeShapes Go.WideShapes Go.ChangeAt Go.RowKit
/-- The digits ahead of those that were written. -/
def preN (m : Nat) : List UInt8 := if m = 0 then [] else digN m
theorem digN_pre (n : Nat) : digN n = preN (n / 10) ++ [UInt8.ofNat (48 + n % 10)] := by
  unfold preN
  by_cases h : n < 10
  · rw [digN_small n h, if_pos (by omega), Nat.mod_eq_of_lt h]; rfl
  · rw [digN_great n h, if_neg (by omega)]
/-- So much is left of a number, and these digits are there. -/
def Dec (N m : Nat) (s : List UInt8) : Prop := (s = [] ∧ m = N) ∨ (s ≠ [] ∧ digN N = preN m ++ s)
theorem Dec.step {N m : Nat} {s : List UInt8} (h : Dec N m s) (hm : s = [] ∨ m ≠ 0) : Dec N (m / 10) (UInt8.ofNat (48 + m % 10) :: s) := by
  refine .inr ⟨by simp, ?_⟩
  rcases h with ⟨rfl, rfl⟩ | ⟨h1, h2⟩
  · exact digN_pre m
  · have hm0 : m ≠ 0 := hm.resolve_left h1
    rw [h2, preN, if_neg hm0, digN_pre m]; simp
theorem Dec.len {N m : Nat} {s : List UInt8} (h : Dec N m s) : s.length ≤ (digN N).length := by
  rcases h with ⟨rfl, rfl⟩ | ⟨h1, h2⟩
  · simp
  · rw [h2]; simp
def emptyOf : Value → Nat
  | .string b => if b.size = 0 then 1 else 0
  | _ => 0
theorem toList_data' (d : ByteArray) : d.toList = d.data.toList := by
  exact Lib.toList_data d
theorem dig_conv (k : Nat) (h : k < 10) : 48 + (k : Int) = ((UInt8.ofNat (48 + k)).toNat : Int) := by
  rw [dig_nat k h]; omega
theorem empty_yes : (bs []).toList.isEmpty = true := by kernel_rfl
theorem empty_no (s : List UInt8) (h : s ≠ []) : (bs s).toList.isEmpty = false := by
  rw [toList_data', bs_toList]
  cases s with
  | nil => exact absurd rfl h
  | cons c s => rfl
theorem byte_text (w : World) (c : UInt8) : (convert 57 9 (.slice (some ⟨w.heap.size, 0, none⟩) 1 1)).run Tryd.prog (w.alloc (.cells #[.int .u8 (c.toNat : Int)] 5)) = .ok (.string (bs [c])) (w.alloc (.cells #[.int .u8 (c.toNat : Int)] 5)) :=
  (Buf.text (w := w.alloc (.cells #[.int .u8 (c.toNat : Int)] 5)) (B := 0) (l := [c]) ⟨rfl, .inr ⟨w.heap.size, 1, #[.int .u8 (c.toNat : Int)], rfl, Nat.zero_le _, at_new w _, Nat.le_refl _, by unfold maxLen; omega, rfl, rfl⟩⟩).2
theorem bs_app (a b : List UInt8) : bs a ++ bs b = bs (a ++ b) := by
  apply ByteArray.ext
  simp [bs]
set_option maxRecDepth 100000 in
set_option maxHeartbeats 1000000 in
theorem decimal_plain (N : Nat) (w : World) (hN : N ≤ 9223372036854775807) : Calls Tryd.prog 21 #[.int .i64 (N : Int)] w fun e w' => e = .returned (.string (bs (digN N))) ∧ Fresh w w' := by
  have HF0 := Lib.hid (Fresh.refl w)
  have hL : (digN N).length ≤ 19 := digN_len 18 N (by omega)
  have HL := Lib.hid hL
  have hge : ¬ (N : Int) < 0 := by omega
  clear hL
  go_enter Tryd.func21, Tryd.ntmps21
  go_wp2
  go_loopw [3, 4] (fun a3 a4 wr => ∃ (m : Nat) (s : List UInt8), m ≤ 9223372036854775807 ∧ a3 = .string (bs s) ∧ a4 = .int .i64 (m : Int) ∧ Hid (Dec N m s) ∧ Hid (Fresh w wr)) (fun a3 a4 _ => 2 * (intOf a4).toNat + emptyOf a3)
  case atStart => exact ⟨N, [], hN, rfl, rfl, .inl ⟨rfl, rfl⟩, HF0.out⟩
  case round =>
    obtain ⟨m, s, hm, rfl, rfl, HD, HF⟩ := hrel
    have hsl : (bs s).size ≤ 19 := by rw [bs_size]; exact Nat.le_trans HD.out.len HL.out
    have ht1 : (m : Int).tmod 10 = ((m % 10 : Nat) : Int) := by rw [Int.tmod_eq_emod_of_nonneg (by omega)]; omega
    have ht2 : (m : Int).tdiv 10 = ((m / 10 : Nat) : Int) := by rw [Int.tdiv_eq_ediv_of_nonneg (by omega)]; omega
    have hd0 : ¬ ((m % 10 : Nat) : Int) < 0 := by omega
    have hd1 : ((m % 10 : Nat) : Int) ≤ 9 := by omega
    have hcv := dig_conv (m % 10) (by omega)
    have happ := bs_app [UInt8.ofNat (48 + m % 10)] s
    have hbt := byte_text wr (UInt8.ofNat (48 + m % 10))
    have HM : Hid (emptyOf (.string (bs (UInt8.ofNat (48 + m % 10) :: s))) = 0) := by
      show (if (bs (UInt8.ofNat (48 + m % 10) :: s)).size = 0 then 1 else 0) = 0
      rw [if_neg (by rw [bs_size]; simp)]
    have hm2 : s = [] → emptyOf (.string (bs s)) = 1 := fun h => by subst h; rfl
    have hq : m / 10 * 10 ≤ m := by omega
    have hbs2 : (bs [UInt8.ofNat (48 + m % 10)]).size = 1 := by rw [bs_size]; rfl
    rw [List.singleton_append] at happ
    rw [← hcv] at hbt
    have HCV := Lib.hid hcv
    clear hcv
    by_cases hx : m = 0 ∧ s ≠ []
    · obtain ⟨hm0, hs0⟩ := hx
      have hem := empty_no s hs0
      have HE : Hid (digN N = s) := by
        rcases HD.out with ⟨h, _⟩ | ⟨_, h⟩
        · exact absurd h hs0
        · rw [Hid, h, preN, if_pos hm0]; rfl
      have hm1 : ((m : Int) != 0) = false := by simp; omega
      clear happ hbt HM hm2 HD ht1 ht2 hd0 hd1 hq hbs2
      obtain ⟨t, ht⟩ : ∃ t, bs s = t := ⟨_, rfl⟩
      have HT := Lib.hid ht
      rw [ht] at hsl hem ⊢
      clear ht
      go_wp2
      go_ret
      exact ⟨by rw [HE.out, HT.out]; rfl, HF.out⟩
    · have HN := Lib.hid (HD.out.step (by by_cases h : s = []; exact .inl h; exact .inr (fun e => hx ⟨e, h⟩)))
      have hcond : ((m : Int) != 0) = true ∨ (((m : Int) != 0) = false ∧ (bs s).toList.isEmpty = true) := by
        by_cases h : m = 0
        · have h2 : s = [] := Classical.byContradiction fun e => hx ⟨h, e⟩
          subst h2
          exact .inr ⟨by simp; omega, empty_yes⟩
        · exact .inl (by simp; omega)
      have HX : Hid (¬ (m = 0 ∧ s ≠ [])) := hx
      have HM2 : Hid (s = [] → emptyOf (.string (bs s)) = 1) := hm2
      have HQ := Lib.hid hq
      clear hx hm2 HD hq
      generalize hcc : UInt8.ofNat (48 + m % 10) = c at *
      generalize hqq : m / 10 = q at *
      have hq9 : q ≤ 9223372036854775807 := by have := HQ.out; omega
      have HQQ := Lib.hid hqq
      clear hcc hqq
      generalize m % 10 = d at *
      rcases hcond with hm1 | ⟨hm1, hem⟩
      all_goals
        go_wp2
        go_roundw
        case rel => exact ⟨q, c :: s, hq9, rfl, rfl, HN.out, HF.out.alloc _⟩
        case measure =>
          rw [HM.out]
          have h1 := HX.out
          have h2 := HM2.out
          have h3 := HQQ.out
          simp only [intOf]
          by_cases h : m = 0
          · have h4 := h2 (Classical.byContradiction fun e => h1 ⟨h, e⟩)
            rw [h4]; omega
          · omega
set_option maxRecDepth 100000 in
set_option maxHeartbeats 1000000 in
theorem decimal_minus (N : Nat) (w : World) (h0 : 0 < N) (hN : N ≤ 9223372036854775808) : Calls Tryd.prog 21 #[.int .i64 (-(N : Int))] w fun e w' => e = .returned (.string (bs (45 :: digN N))) ∧ Fresh w w' := by
  have HF0 := Lib.hid (Fresh.refl w)
  have hL : (digN N).length ≤ 19 := digN_len 18 N (by omega)
  have HL := Lib.hid hL
  have hge : -(N : Int) < 0 := by omega
  have H0 := Lib.hid h0
  clear h0
  clear hL
  go_enter Tryd.func21, Tryd.ntmps21
  go_wp2
  go_loopw [3, 4] (fun a3 a4 wr => ∃ (m : Nat) (s : List UInt8), m ≤ 9223372036854775808 ∧ a3 = .string (bs s) ∧ a4 = .int .i64 (-(m : Int)) ∧ Hid (Dec N m s) ∧ Hid (Fresh w wr)) (fun a3 a4 _ => 2 * (intOf a4).natAbs + emptyOf a3)
  case atStart => exact ⟨N, [], hN, rfl, rfl, .inl ⟨rfl, rfl⟩, HF0.out⟩
  case round =>
    obtain ⟨m, s, hm, rfl, rfl, HD, HF⟩ := hrel
    have hsl : (bs s).size ≤ 19 := by rw [bs_size]; exact Nat.le_trans HD.out.len HL.out
    have ht1 : (-(m : Int)).tmod 10 = -((m % 10 : Nat) : Int) := by rw [Int.neg_tmod, Int.tmod_eq_emod_of_nonneg (by omega)]; omega
    have ht2 : (-(m : Int)).tdiv 10 = -((m / 10 : Nat) : Int) := by rw [Int.neg_tdiv, Int.tdiv_eq_ediv_of_nonneg (by omega)]; omega
    have hd1 : ((m % 10 : Nat) : Int) ≤ 9 := by omega
    have hcv := dig_conv (m % 10) (by omega)
    have happ := bs_app [UInt8.ofNat (48 + m % 10)] s
    have hbt := byte_text wr (UInt8.ofNat (48 + m % 10))
    have HM : Hid (emptyOf (.string (bs (UInt8.ofNat (48 + m % 10) :: s))) = 0) := by
      show (if (bs (UInt8.ofNat (48 + m % 10) :: s)).size = 0 then 1 else 0) = 0
      rw [if_neg (by rw [bs_size]; simp)]
    have hm2 : s = [] → emptyOf (.string (bs s)) = 1 := fun h => by subst h; rfl
    have hq : m / 10 * 10 ≤ m := by omega
    have hbs2 : (bs [UInt8.ofNat (48 + m % 10)]).size = 1 := by rw [bs_size]; rfl
    rw [List.singleton_append] at happ
    rw [← hcv] at hbt
    have HCV := Lib.hid hcv
    clear hcv
    by_cases hx : m = 0 ∧ s ≠ []
    · obtain ⟨hm0, hs0⟩ := hx
      have hem := empty_no s hs0
      have HE : Hid (digN N = s) := by
        rcases HD.out with ⟨h, _⟩ | ⟨_, h⟩
        · exact absurd h hs0
        · rw [Hid, h, preN, if_pos hm0]; rfl
      have hm1 : (-(m : Int) != 0) = false := by simp; omega
      have h45 := bs_app [45] s
      have h451 : bs [45] = ⟨#[45]⟩ := rfl
      rw [h451, List.singleton_append] at h45
      clear happ hbt HM hm2 HD ht1 ht2 hd1 hq hbs2
      obtain ⟨t, ht⟩ : ∃ t, bs s = t := ⟨_, rfl⟩
      have HT := Lib.hid ht
      rw [ht] at hsl hem h45 ⊢
      clear ht
      go_wp2
      go_ret
      exact ⟨by rw [HE.out, ← h45]; rfl, HF.out⟩
    · have HN := Lib.hid (HD.out.step (by by_cases h : s = []; exact .inl h; exact .inr (fun e => hx ⟨e, h⟩)))
      have hcond : (-(m : Int) != 0) = true ∨ ((-(m : Int) != 0) = false ∧ (bs s).toList.isEmpty = true) := by
        by_cases h : m = 0
        · have h2 : s = [] := Classical.byContradiction fun e => hx ⟨h, e⟩
          subst h2
          exact .inr ⟨by simp; omega, empty_yes⟩
        · exact .inl (by simp; omega)
      have HX : Hid (¬ (m = 0 ∧ s ≠ [])) := hx
      have HM2 : Hid (s = [] → emptyOf (.string (bs s)) = 1) := hm2
      have HQ := Lib.hid hq
      clear hx hm2 HD hq
      generalize hcc : UInt8.ofNat (48 + m % 10) = c at *
      generalize hqq : m / 10 = q at *
      have hq9 : q ≤ 9223372036854775808 := by have := HQ.out; omega
      have HQQ := Lib.hid hqq
      clear hcc hqq
      generalize m % 10 = d at *
      by_cases hd0 : d = 0
      · subst hd0
        have e0 : (-((0 : Nat) : Int)) = 0 := rfl
        have e1 : (48 + ((0 : Nat) : Int)) = 48 := rfl
        rw [e0] at ht1
        rw [e1] at hbt
        clear hd1 e0 e1
        rcases hcond with hm1 | ⟨hm1, hem⟩
        all_goals
          go_wp2
          go_roundw
          case rel => exact ⟨q, c :: s, hq9, rfl, rfl, HN.out, HF.out.alloc _⟩
          case measure =>
            rw [HM.out]
            have h1 := HX.out
            have h2 := HM2.out
            have h3 := HQQ.out
            simp only [intOf]
            by_cases h : m = 0
            · have h4 := h2 (Classical.byContradiction fun e => h1 ⟨h, e⟩)
              rw [h4]; omega
            · omega
      · obtain ⟨x, hx⟩ : ∃ x : Int, x = -(d : Int) := ⟨_, rfl⟩
        have hx0 : x < 0 := by omega
        have hx1 : -9 ≤ x := by omega
        have hxd : (d : Int) = -x := by omega
        rw [← hx] at ht1
        rw [hxd] at hbt
        clear hd1 hd0 hxd hx
        rcases hcond with hm1 | ⟨hm1, hem⟩
        all_goals
          go_wp2
          go_roundw
          case rel => exact ⟨q, c :: s, hq9, rfl, rfl, HN.out, HF.out.alloc _⟩
          case measure =>
            rw [HM.out]
            have h1 := HX.out
            have h2 := HM2.out
            have h3 := HQQ.out
            simp only [intOf]
            by_cases h : m = 0
            · have h4 := h2 (Classical.byContradiction fun e => h1 ⟨h, e⟩)
              rw [h4]; omega
            · omega

theorem decimal_any (v : Int) (w : World) (h0 : -9223372036854775808 ≤ v) (h1 : v ≤ 9223372036854775807) : Calls Tryd.prog 21 #[.int .i64 v] w fun e w' => e = .returned (.string (bs (decL v))) ∧ Fresh w w' := by
  by_cases hv : v < 0
  · have := decimal_minus v.natAbs w (by omega) (by omega)
    rw [show (-(v.natAbs : Int)) = v by omega] at this
    rw [decL, if_pos hv]
    exact this
  · have := decimal_plain v.natAbs w (by omega)
    rw [show ((v.natAbs : Nat) : Int) = v by omega] at this
    rw [decL, if_neg hv]
    exact this
end Go.Proofs.YtajmhllldocpjaaDoor
