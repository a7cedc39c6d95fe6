/-
  Parts of the proof: YRKey2.
-/
import Derived.Test.YtcljplkkgpjhlaaGreatDoorRCat13
import Derived.Test.YtcljplkkgpjhlaaGreatDoorRCat10
set_option maxRecDepth 100000
set_option maxHeartbeats 8000000
namespace Go.Proofs.YtcljplkkgpjhlaaGreatDoorR
namespace y
open Go.ChangeShapes Go.WideShapes Go.ChangeAt Go.RowKit
attribute [local go_sem ↓] Go.wp_at_zero Go.wp_at_succ
variable {w : World}
theorem rkey_not (s : ByteArray) (a b c md : Bool) (w : World) (ha : (s.toList == [110, 117, 108, 108]) = a) (hb : (s.toList == [116, 114, 117, 101]) = b) (hc : (s.toList == [102, 97, 108, 115, 101]) = c)
    (hm : ∀ W : World, Calls Tryz.prog 34 #[.string s, .string ⟨#[46, 95, 47, 45]⟩] W fun e w' => e = .returned (.bool md) ∧ Fresh W w') (hx : (a || (b || (c || !md))) = true) :
    Calls Tryz.prog 13 #[.string s] w fun e w' => e = .returned (.bool false) ∧ Fresh w w' := by
  have HM := Lib.hid hm
  clear hm
  cases a
  · cases b
    · cases c
      · cases md
        · clear hx
          go_enter Tryz.func13, Tryz.ntmps13
          go_wp2_with (go_at_call 34; refine (HM.out _).mono ?_; rintro e w1 ⟨rfl, hf⟩; have HF := Lib.hid hf; clear hf)
          go_ret
          exact ⟨rfl, HF.out⟩
        · cases hx
      · clear hx HM
        go_enter Tryz.func13, Tryz.ntmps13
        go_wp2_with fail
        go_ret
        exact ⟨rfl, Fresh.refl w⟩
    · clear hx HM hc
      go_enter Tryz.func13, Tryz.ntmps13
      go_wp2_with fail
      go_ret
      exact ⟨rfl, Fresh.refl w⟩
  · clear hx HM hb hc
    go_enter Tryz.func13, Tryz.ntmps13
    go_wp2_with fail
    go_ret
    exact ⟨rfl, Fresh.refl w⟩
theorem alB_let (c : UInt8) : (alB c && decide (57 < c.toNat)) = letB c := by
  unfold alB digB letB
  rw [Bool.eq_iff_iff]
  simp
  omega
theorem rkey_head (c : UInt8) (r : List UInt8) (w : World) (ha : ((tx (c :: r)).toList == [110, 117, 108, 108]) = false) (hb : ((tx (c :: r)).toList == [116, 114, 117, 101]) = false) (hc : ((tx (c :: r)).toList == [102, 97, 108, 115, 101]) = false)
    (hm : ∀ W : World, Calls Tryz.prog 34 #[.string (tx (c :: r)), .string ⟨#[46, 95, 47, 45]⟩] W fun e w' => e = .returned (.bool true) ∧ Fresh W w') :
    Calls Tryz.prog 13 #[.string (tx (c :: r))] w fun e w' => e = .returned (.bool (headB (c :: r))) ∧ Fresh w w' := by
  have HM := Lib.hid hm
  have HL := Lib.hid (fun W => alnum_any c W)
  obtain ⟨p1, p2, p3, p4⟩ : Cons (tx (c :: r)) c (tx r) := bs_cons c r
  have HK : Hid (headB (c :: r) = ((alB c && decide (57 < c.toNat)) || decide (c.toNat = 95))) := by rw [alB_let]; rfl
  rw [HK.out]
  clear HK hm
  generalize tx (c :: r) = s at *
  clear p3
  by_cases h2 : c.toNat = 95
  · have g1 : ((c.toNat : Int) == 95) = true := by simp; omega
    rw [decide_eq_true h2, Bool.or_true]
    clear h2 HL
    go_enter Tryz.func13, Tryz.ntmps13
    go_wp2_with (go_at_call 34; refine (HM.out _).mono ?_; rintro e w1 ⟨rfl, hf⟩; have HF := Lib.hid hf; clear hf)
    go_ret
    exact ⟨rfl, HF.out⟩
  · have g1 : ((c.toNat : Int) == 95) = false := by simp; omega
    rw [decide_eq_false h2, Bool.or_false]
    cases h1 : alB c
    · rw [h1] at HL
      go_enter Tryz.func13, Tryz.ntmps13
      go_wp2_with (first | (go_at_call 34; refine (HM.out _).mono ?_; rintro e w1 ⟨rfl, hf⟩; have HF := Lib.hid hf; clear hf) | (go_at_call 35; refine (HL.out _).mono ?_; rintro e w' ⟨rfl, rfl⟩))
      go_ret
      exact ⟨rfl, HF.out⟩
    · rw [h1] at HL
      by_cases h3 : 57 < c.toNat
      · have g3 : (57 : Int) < (c.toNat : Int) := by omega
        rw [decide_eq_true h3]
        clear h3 h2
        go_enter Tryz.func13, Tryz.ntmps13
        go_wp2_with (first | (go_at_call 34; refine (HM.out _).mono ?_; rintro e w1 ⟨rfl, hf⟩; have HF := Lib.hid hf; clear hf) | (go_at_call 35; refine (HL.out _).mono ?_; rintro e w' ⟨rfl, rfl⟩))
        go_ret
        exact ⟨rfl, HF.out⟩
      · have g3 : decide ((57 : Int) < (c.toNat : Int)) = false := decide_eq_false (by omega)
        rw [decide_eq_false h3]
        clear h3 h2
        go_enter Tryz.func13, Tryz.ntmps13
        go_wp2_with (first | (go_at_call 34; refine (HM.out _).mono ?_; rintro e w1 ⟨rfl, hf⟩; have HF := Lib.hid hf; clear hf) | (go_at_call 35; refine (HL.out _).mono ?_; rintro e w' ⟨rfl, rfl⟩))
        go_ret
        exact ⟨rfl, HF.out⟩
theorem rkey_any (l : List UInt8) (w : World) (hl : l.length ≤ 1000000) : Calls Tryz.prog 13 #[.string (tx l)] w fun e w' => e = .returned (.bool (keyB l)) ∧ Fresh w w' := by
  have hm : ∀ W : World, Calls Tryz.prog 34 #[.string (tx l), .string ⟨#[46, 95, 47, 45]⟩] W fun e w' => e = .returned (.bool (onlyB inK l && decide (0 < (tx l).size))) ∧ Fresh W w' := fun W => by
    have k := made_any (tx l) (tx inK) W (by rw [tx_size]; exact hl) (by decide)
    rw [tx_toList, tx_toList] at k
    exact k
  by_cases hx : (decide (l = tNull) || (decide (l = tTrue) || (decide (l = tFalse) || !(onlyB inK l && decide (0 < (tx l).size))))) = true
  · have e : keyB l = false := by
      unfold keyB namedB
      cases l with
      | nil => rfl
      | cons c r =>
        have : 0 < (tx (c :: r)).size := by rw [tx_size]; simp
        rw [decide_eq_true this, Bool.and_true] at hx
        cases h1 : decide (c :: r = tNull) <;> cases h2 : decide (c :: r = tTrue) <;> cases h3 : decide (c :: r = tFalse) <;> cases h4 : onlyB inK (c :: r) <;> simp_all
    rw [e]
    exact rkey_not (tx l) _ _ _ _ w (tx_eq l _) (tx_eq l _) (tx_eq l _) hm hx
  · cases l with
    | nil => exact absurd (by decide) hx
    | cons c r =>
      have h0 : decide (0 < (tx (c :: r)).size) = true := decide_eq_true (by rw [tx_size]; simp)
      rw [h0, Bool.and_true] at hx
      have h1 : decide (c :: r = tNull) = false := by cases h : decide (c :: r = tNull) <;> simp_all
      have h2 : decide (c :: r = tTrue) = false := by cases h : decide (c :: r = tTrue) <;> simp_all
      have h3 : decide (c :: r = tFalse) = false := by cases h : decide (c :: r = tFalse) <;> simp_all
      have h4 : onlyB inK (c :: r) = true := by cases h : onlyB inK (c :: r) <;> simp_all
      have e : keyB (c :: r) = headB (c :: r) := by
        unfold keyB namedB
        rw [h1, h2, h3, h4]
        simp
      rw [h0, Bool.and_true, h4] at hm
      rw [e]
      exact rkey_head c r w ((tx_eq _ _).trans h1) ((tx_eq _ _).trans h2) ((tx_eq _ _).trans h3) hm
end y
end Go.Proofs.YtcljplkkgpjhlaaGreatDoorR
