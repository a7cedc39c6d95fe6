/-
  The document's Whole.
-/
import Derived.Test.YtajmhllldocpjaaDoorAhead
import Derived.IntWalk
import Derived.Deep.DeepCutAuto
import Derived.Deep.CutRange
import Derived.Deep.CutBlock
namespace Go.Proofs.YtajmhllldocpjaaDoor
open Go.ChangeShapes Go.WideShapes Go.ChangeAt Go.RowKit
set_option linter.unusedVariables false
attribute [local go_sem ↓] Go.wp_at_zero Go.wp_at_succ
variable {w : World}

theorem rdigit_any (c : UInt8) (w : World) : Calls Tryd.prog 16 #[.int .u8 (c.toNat : Int)] w fun e w' => e = .returned (.bool (digB c)) ∧ w = w' := by
  by_cases h0 : 48 ≤ c.toNat
  · by_cases h1 : c.toNat ≤ 57
    · have a0 : (48 : Int) ≤ (c.toNat : Int) := by omega
      have a1 : (c.toNat : Int) ≤ 57 := by omega
      have H : Hid (digB c = true) := (digB_iff c).2 ⟨h0, h1⟩
      clear h0 h1
      go_enter Tryd.func16, Tryd.ntmps16
      go_wp2
      go_ret
      exact ⟨by rw [H.out]; rfl, rfl⟩
    · have a0 : (48 : Int) ≤ (c.toNat : Int) := by omega
      have a1 : ¬ (c.toNat : Int) ≤ 57 := by omega
      have H : Hid (digB c = false) := by rw [Hid, digB]; simp; omega
      clear h0 h1
      go_enter Tryd.func16, Tryd.ntmps16
      go_wp2
      go_ret
      exact ⟨by rw [H.out]; rfl, rfl⟩
  · have a0 : ¬ (48 : Int) ≤ (c.toNat : Int) := by omega
    have H : Hid (digB c = false) := by rw [Hid, digB]; simp; omega
    clear h0
    go_enter Tryd.func16, Tryd.ntmps16
    go_wp2
    go_ret
    exact ⟨by rw [H.out]; rfl, rfl⟩
def mostP : List UInt8 := [57, 50, 50, 51, 51, 55, 50, 48, 51, 54, 56, 53, 52, 55, 55, 53, 56, 48, 55]
def mostM : List UInt8 := [57, 50, 50, 51, 51, 55, 50, 48, 51, 54, 56, 53, 52, 55, 55, 53, 56, 48, 56]
theorem mostP_num : num mostP = 9223372036854775807 := by decide +kernel
theorem mostM_num : num mostM = 9223372036854775808 := by decide +kernel
theorem mostP_dig : ∀ c ∈ mostP, digB c = true := by decide +kernel
theorem mostM_dig : ∀ c ∈ mostM, digB c = true := by decide +kernel
theorem gtr_run (d : ByteArray) (m : List UInt8) (b : Bool) (h : (Op.bytesLess d.data.toList m || d.data.toList == m) = !b) (W : World) : (Op.stringOp .gtr d ⟨m.toArray⟩).run Tryd.prog W = .ok (.bool b) W := by
  have e1 : d.toList = d.data.toList := Lib.toList_data d
  have e2 : (⟨m.toArray⟩ : ByteArray).toList = m := by rw [Lib.toList_data]
  unfold Op.stringOp
  simp only [e1, e2, h, Bool.not_not]
  rfl
/-- What is known of digits that go on. -/
structure Dig (d : ByteArray) (k : Nat) : Prop where
  all : ∀ c ∈ d.data.toList.take k, digB c = true
theorem Dig.none (d : ByteArray) : Dig d 0 := ⟨fun c h => by simp at h⟩
theorem Dig.next {d : ByteArray} {k : Nat} (h : Dig d k) (hk : k < d.size) (hc : digB d[k] = true) : Dig d (k + 1) := ⟨fun c hm => by
  rw [take_snoc d k hk] at hm
  rcases List.mem_append.1 hm with hm | hm
  · exact h.all c hm
  · rw [List.mem_singleton] at hm; subst hm; exact hc⟩
theorem no_digits {d : ByteArray} {k : Nat} (hk : k < d.size) (hc : digB d[k] = false) : digits d.data.toList = false := by
  cases h : digits d.data.toList with
  | false => rfl
  | true =>
    have := ((digits_iff _).1 h).2.1 d[k] (List.getElem_mem (by simpa using hk))
    rw [hc] at this
    cases this
theorem num_take_snoc (d : ByteArray) (k : Nat) (hk : k < d.size) : num (d.data.toList.take (k + 1)) = num (d.data.toList.take k) * 10 + (d[k].toNat - 48) := by
  rw [take_snoc d k hk, num, num, numA_snoc]
set_option maxRecDepth 100000 in
set_option maxHeartbeats 2000000 in
theorem rwhole_minus (d s : ByteArray) (w : World) (hd : d.size ≤ 9000000) (hp : 0 < s.size) (hg : s[0] = 45) (hc : s.extract 1 s.size = d) (hne : s.toList.isEmpty = false) :
    Calls Tryd.prog 7 #[.string s] w fun e w' => e = .returned (.tuple #[.int .i64 (if digits d.data.toList = true ∧ num d.data.toList ≤ 9223372036854775808 then -(num d.data.toList : Int) else 0), .int .i64 (if digits d.data.toList = true then (if num d.data.toList ≤ 9223372036854775808 then 0 else 7) else 12)]) ∧ w = w' := by
  have hX1 : digits d.data.toList = false → (if digits d.data.toList = true ∧ num d.data.toList ≤ 9223372036854775808 then -(num d.data.toList : Int) else (0 : Int)) = 0 ∧ (if digits d.data.toList = true then (if num d.data.toList ≤ 9223372036854775808 then (0 : Int) else 7) else 12) = 12 := fun h => by rw [h]; exact ⟨if_neg (by simp), if_neg (by simp)⟩
  have hX2 : digits d.data.toList = true → ¬ num d.data.toList ≤ 9223372036854775808 → (if digits d.data.toList = true ∧ num d.data.toList ≤ 9223372036854775808 then -(num d.data.toList : Int) else (0 : Int)) = 0 ∧ (if digits d.data.toList = true then (if num d.data.toList ≤ 9223372036854775808 then (0 : Int) else 7) else 12) = 7 := fun h k => ⟨if_neg (fun e => k e.2), by rw [if_pos h, if_neg k]⟩
  have hX3 : digits d.data.toList = true → num d.data.toList ≤ 9223372036854775808 → (if digits d.data.toList = true ∧ num d.data.toList ≤ 9223372036854775808 then -(num d.data.toList : Int) else (0 : Int)) = -(num d.data.toList : Int) ∧ (if digits d.data.toList = true then (if num d.data.toList ≤ 9223372036854775808 then (0 : Int) else 7) else 12) = 0 := fun h k => ⟨if_pos ⟨h, k⟩, by rw [if_pos h, if_pos k]⟩
  generalize (if digits d.data.toList = true ∧ num d.data.toList ≤ 9223372036854775808 then -(num d.data.toList : Int) else (0 : Int)) = v at *
  generalize (if digits d.data.toList = true then (if num d.data.toList ≤ 9223372036854775808 then (0 : Int) else 7) else 12) = x at *
  have HX1 := Lib.hid hX1
  have HX2 := Lib.hid hX2
  have HX3 := Lib.hid hX3
  clear hX1 hX2 hX3
  have hg2 : ((s[0].toNat : Int) == 45) = true := by rw [hg]; rfl
  clear hg
  by_cases h0 : d.size = 0
  · obtain rfl : d = ⟨#[]⟩ := ByteArray.ext (Array.eq_empty_of_size_eq_zero h0)
    have HE := Lib.hid (HX1.out (by rfl))
    clear HX1 HX2 HX3 h0 hd 
    go_enter Tryd.func7, Tryd.ntmps7
    go_wp2
    go_ret2
    exact ⟨by rw [HE.out.1, HE.out.2]; rfl, rfl⟩
  have hpos : 0 < d.size := by omega
  have HD0 : Hid (∀ W, Calls Tryd.prog 16 #[.int .u8 (d[0].toNat : Int)] W fun e w' => e = .returned (.bool (digB d[0])) ∧ W = w') := fun W => rdigit_any d[0] W
  clear HD0
  have hhead : d.data.toList.head? = some d[0] := by
    have h1 := List.drop_eq_getElem_cons (l := d.data.toList) (i := 0) (by simpa using hpos)
    rw [List.drop_zero] at h1
    rw [h1]; rfl
  by_cases hz : d[0].toNat = 48 ∧ 1 < d.size
  · obtain ⟨hz1, hz2⟩ := hz
    have HE := Lib.hid (HX1.out (by
      cases h : digits d.data.toList with
      | false => rfl
      | true =>
        rcases ((digits_iff _).1 h).2.2 with k | k
        · rw [hhead] at k
          exact absurd (by rw [(UInt8.toNat_inj.1 hz1 : d[0] = 48)]) k
        · have := congrArg List.length k
          simp at this
          have : d.size = d.data.size := rfl
          omega))
    have e48 : ((d[0].toNat : Int) == 48) = true := by rw [hz1]; rfl
    clear HX1 HX2 HX3 hz1 hhead
    go_enter Tryd.func7, Tryd.ntmps7
    go_wp2
    go_ret2
    exact ⟨by rw [HE.out.1, HE.out.2]; rfl, rfl⟩
  have HD : Hid ((∀ c ∈ d.data.toList, digB c = true) → digits d.data.toList = true) := fun h => by
    refine (digits_iff _).2 ⟨fun e => ?_, h, ?_⟩
    · rw [e] at hhead; cases hhead
    · by_cases h1 : d[0].toNat = 48
      · refine .inr ?_
        have hs1 : d.size = 1 := by omega
        have : d.data.toList = [d[0]] := by
          apply List.ext_getElem
          · simp; exact hs1
          · intro i h1 h2
            simp at h2
            subst h2
            rfl
        rw [this, (UInt8.toNat_inj.1 h1 : d[0] = 48)]
      · refine .inl ?_
        rw [hhead]
        intro e
        injection e with e
        exact h1 (by rw [e]; rfl)
  have hcond : (((d[0].toNat : Int) == 48) = false ∧ 1 < d.size) ∨ (¬ 1 < d.size) := by
    by_cases h1 : 1 < d.size
    · refine .inl ⟨?_, h1⟩
      rw [beq_eq_false_iff_ne]
      intro e
      exact hz ⟨by omega, h1⟩
    · exact .inr h1
  clear hz hhead
  have hz0 : ((d.size : Int) == 0) = false := by rw [beq_eq_false_iff_ne]; omega
  rcases hcond with ⟨k1, k2⟩ | k2
  all_goals
    go_enter Tryd.func7, Tryd.ntmps7
    go_wp2
    go_loop [5] (fun a5 => ∃ k : Nat, k ≤ d.size ∧ a5 = .int .i64 k ∧ Hid (Dig d k)) (fun a5 => d.size - (intOf a5).toNat)
    case atStart => exact ⟨0, Nat.zero_le _, rfl, Dig.none d⟩
    case round =>
      obtain ⟨k, hk, rfl, HK⟩ := hrel
      by_cases hlt : k < d.size
      · have HP := Lib.hid (fun W => rdigit_any d[k] W)
        cases hc : digB d[k] with
        | false =>
          rw [hc] at HP
          have HE := Lib.hid (HX1.out (no_digits hlt hc))
          clear hc
          go_wp2_with (go_at_call 16; refine (HP.out _).mono ?_; rintro e w' ⟨rfl, rfl⟩)
          go_ret2
          exact ⟨by rw [HE.out.1, HE.out.2]; rfl, rfl⟩
        | true =>
          rw [hc] at HP
          have HK2 := Lib.hid (HK.out.next hlt hc)
          clear hc
          go_wp2_with (go_at_call 16; refine (HP.out _).mono ?_; rintro e w' ⟨rfl, rfl⟩)
          go_round
          case rel => exact ⟨k + 1, by omega, by go_num, HK2.out⟩
          case measure => simp [intOf]; omega
      · obtain rfl : k = d.size := by omega
        have hall : ∀ c ∈ d.data.toList, digB c = true := fun c hc => HK.out.all c (by rw [List.take_of_length_le (by simp)]; exact hc)
        have hdg := HD.out hall
        have hmd := most_digits d.data.toList mostM hdg rfl mostM_dig (by rw [mostM_num]; decide)
        rw [mostM_num] at hmd
        have hln : d.data.toList.length = d.size := by simp
        rw [hln] at hmd
        have HDG := Lib.hid hdg
        clear HD HX1 hln hdg HK
        by_cases hm : num d.data.toList ≤ 9223372036854775808
        · have HE := Lib.hid (HX3.out HDG.out hm)
          have hno : ¬ (19 < d.size ∨ d.size = 19 ∧ (Op.bytesLess d.data.toList mostM || d.data.toList == mostM) = false) := fun e => by have := hmd.1 e; omega
          have h19 : d.size < 19 ∨ (d.size = 19 ∧ (Op.bytesLess d.data.toList mostM || d.data.toList == mostM) = true) := by
            rcases Nat.lt_trichotomy d.size 19 with h | h | h
            · exact .inl h
            · refine .inr ⟨h, ?_⟩
              cases hb : (Op.bytesLess d.data.toList mostM || d.data.toList == mostM) with
              | true => rfl
              | false => exact absurd (.inr ⟨h, hb⟩) hno
            · exact absurd (.inl h) hno
          have HM : Hid (num d.data.toList ≤ 9223372036854775808) := hm
          have HALL := Lib.hid hall
          clear hmd hno HX2 HX3 hall hm hlt
          have htl : d.toList = d.data.toList := Lib.toList_data d
          have h3 : (d.size < 19 ∧ ((d.size : Int) == 19) = false) ∨ (((d.size : Int) == 19) = true ∧ Op.bytesLess d.toList [57, 50, 50, 51, 51, 55, 50, 48, 51, 54, 56, 53, 52, 55, 55, 53, 56, 48, 56] = true) ∨ (((d.size : Int) == 19) = true ∧ (d.toList == [57, 50, 50, 51, 51, 55, 50, 48, 51, 54, 56, 53, 52, 55, 55, 53, 56, 48, 56]) = true) := by
            rw [htl]
            rcases h19 with h | ⟨h, hg⟩
            · exact .inl ⟨h, by rw [beq_eq_false_iff_ne]; omega⟩
            · rw [Bool.or_eq_true] at hg
              rcases hg with hg | hg
              · exact .inr (.inl ⟨by rw [h]; rfl, hg⟩)
              · exact .inr (.inr ⟨by rw [h]; rfl, hg⟩)
          have a1 : ¬ 19 < d.size := by rcases h19 with h | ⟨h, _⟩ <;> omega
          clear h19 htl
          rcases h3 with ⟨_, a2⟩ | ⟨a2, hgt⟩ | ⟨a2, hgt⟩
          all_goals
            go_wp2
            go_loop [7, 8] (fun a7 a8 => ∃ (k : Nat) (y : Int), k ≤ d.size ∧ a8 = .int .i64 k ∧ a7 = .int .i64 y ∧ Hid (y = -(num (d.data.toList.take k) : Int))) (fun _ a8 => d.size - (intOf a8).toNat)
            case atStart => exact ⟨0, 0, Nat.zero_le _, rfl, rfl, by rw [Hid]; rfl⟩
            case round =>
              obtain ⟨k, y, hk2, rfl, rfl, HY⟩ := hrel
              by_cases hlt : k < d.size
              · have hc := (digB_iff d[k]).1 (HALL.out d[k] (List.getElem_mem (by simpa using hlt)))
                have hs := num_take_snoc d k hlt
                have hle := num_take d.data.toList (k + 1)
                have hM := HM.out
                have hy := HY.out
                have w1 : IntKind.i64.wrap (y * 10) = y * 10 := IntWalk.i64_in _ (by omega)
                have w2 : IntKind.i64.wrap (y * 10 - ((d[k].toNat : Int) - 48)) = y * 10 - ((d[k].toNat : Int) - 48) := IntWalk.i64_in _ (by omega)
                have HY2 : Hid (y * 10 - ((d[k].toNat : Int) - 48) = -(num (d.data.toList.take (k + 1)) : Int)) := by rw [Hid]; omega
                have c0 : (48 : Int) ≤ (d[k].toNat : Int) := by omega
                have c1 : (d[k].toNat : Int) ≤ 57 := by omega
                clear hc hs hle hM hy
                go_wp2
                go_round
                case rel => exact ⟨k + 1, y * 10 - ((d[k].toNat : Int) - 48), by omega, by go_num, rfl, HY2.out⟩
                case measure => simp [intOf]; omega
              · obtain rfl : k = d.size := by omega
                have HV : Hid (v = y) := by rw [Hid, HE.out.1, HY.out, List.take_of_length_le (by simp)]
                have HX := Lib.hid HE.out.2
                clear hlt HE
                go_wp2
                go_ret2
                exact ⟨by rw [HV.out, HX.out]; rfl, rfl⟩
        · have HE := Lib.hid (HX2.out HDG.out hm)
          have h19 := hmd.2 (by omega)
          clear hmd HX2 HX3 hall hm hlt
          rcases h19 with h | ⟨h, hg⟩
          · go_wp2
            all_goals
              go_ret2
              exact ⟨by rw [HE.out.1, HE.out.2]; rfl, rfl⟩
          · have htl : d.toList = d.data.toList := Lib.toList_data d
            rw [← htl, Bool.or_eq_false_iff] at hg
            obtain ⟨g1, g2⟩ := hg
            have g1' : Op.bytesLess d.toList [57, 50, 50, 51, 51, 55, 50, 48, 51, 54, 56, 53, 52, 55, 55, 53, 56, 48, 56] = false := g1
            have g2' : (d.toList == [57, 50, 50, 51, 51, 55, 50, 48, 51, 54, 56, 53, 52, 55, 55, 53, 56, 48, 56]) = false := g2
            clear g1 g2 htl
            have a1 : ¬ 19 < d.size := by omega
            have a2 : ((d.size : Int) == 19) = true := by rw [h]; rfl
            clear h
            go_wp2
            go_ret2
            exact ⟨by rw [HE.out.1, HE.out.2]; rfl, rfl⟩
set_option maxRecDepth 100000 in
set_option maxHeartbeats 2000000 in
theorem rwhole_plain (d : ByteArray) (w : World) (hd : d.size ≤ 9000000) (hn : d.size = 0 ∨ ∃ h : 0 < d.size, d[0].toNat ≠ 45) :
    Calls Tryd.prog 7 #[.string d] w fun e w' => e = .returned (.tuple #[.int .i64 (if digits d.data.toList = true ∧ num d.data.toList ≤ 9223372036854775807 then (num d.data.toList : Int) else 0), .int .i64 (if digits d.data.toList = true then (if num d.data.toList ≤ 9223372036854775807 then 0 else 7) else 12)]) ∧ w = w' := by
  have hX1 : digits d.data.toList = false → (if digits d.data.toList = true ∧ num d.data.toList ≤ 9223372036854775807 then (num d.data.toList : Int) else (0 : Int)) = 0 ∧ (if digits d.data.toList = true then (if num d.data.toList ≤ 9223372036854775807 then (0 : Int) else 7) else 12) = 12 := fun h => by rw [h]; exact ⟨if_neg (by simp), if_neg (by simp)⟩
  have hX2 : digits d.data.toList = true → ¬ num d.data.toList ≤ 9223372036854775807 → (if digits d.data.toList = true ∧ num d.data.toList ≤ 9223372036854775807 then (num d.data.toList : Int) else (0 : Int)) = 0 ∧ (if digits d.data.toList = true then (if num d.data.toList ≤ 9223372036854775807 then (0 : Int) else 7) else 12) = 7 := fun h k => ⟨if_neg (fun e => k e.2), by rw [if_pos h, if_neg k]⟩
  have hX3 : digits d.data.toList = true → num d.data.toList ≤ 9223372036854775807 → (if digits d.data.toList = true ∧ num d.data.toList ≤ 9223372036854775807 then (num d.data.toList : Int) else (0 : Int)) = (num d.data.toList : Int) ∧ (if digits d.data.toList = true then (if num d.data.toList ≤ 9223372036854775807 then (0 : Int) else 7) else 12) = 0 := fun h k => ⟨if_pos ⟨h, k⟩, by rw [if_pos h, if_pos k]⟩
  generalize (if digits d.data.toList = true ∧ num d.data.toList ≤ 9223372036854775807 then (num d.data.toList : Int) else (0 : Int)) = v at *
  generalize (if digits d.data.toList = true then (if num d.data.toList ≤ 9223372036854775807 then (0 : Int) else 7) else 12) = x at *
  have HX1 := Lib.hid hX1
  have HX2 := Lib.hid hX2
  have HX3 := Lib.hid hX3
  clear hX1 hX2 hX3
  by_cases h0 : d.size = 0
  · obtain rfl : d = ⟨#[]⟩ := ByteArray.ext (Array.eq_empty_of_size_eq_zero h0)
    have HE := Lib.hid (HX1.out (by rfl))
    clear HX1 HX2 HX3 h0 hd hn
    go_enter Tryd.func7, Tryd.ntmps7
    go_wp2
    go_ret2
    exact ⟨by rw [HE.out.1, HE.out.2]; rfl, rfl⟩
  have hpos : 0 < d.size := by omega
  have hne45 : ((d[0].toNat : Int) == 45) = false := by
    rcases hn with h | ⟨_, h⟩
    · omega
    · rw [beq_eq_false_iff_ne]; omega
  have hne : d.toList.isEmpty = false := by
    rw [Lib.toList_data]
    cases hl : d.data.toList with
    | nil =>
      have h1 : d.data.toList.length = d.size := by simp
      rw [hl, List.length_nil] at h1
      omega
    | cons a b => rfl
  clear hn
  have HD0 : Hid (∀ W, Calls Tryd.prog 16 #[.int .u8 (d[0].toNat : Int)] W fun e w' => e = .returned (.bool (digB d[0])) ∧ W = w') := fun W => rdigit_any d[0] W
  clear HD0
  have hhead : d.data.toList.head? = some d[0] := by
    have h1 := List.drop_eq_getElem_cons (l := d.data.toList) (i := 0) (by simpa using hpos)
    rw [List.drop_zero] at h1
    rw [h1]; rfl
  by_cases hz : d[0].toNat = 48 ∧ 1 < d.size
  · obtain ⟨hz1, hz2⟩ := hz
    have HE := Lib.hid (HX1.out (by
      cases h : digits d.data.toList with
      | false => rfl
      | true =>
        rcases ((digits_iff _).1 h).2.2 with k | k
        · rw [hhead] at k
          exact absurd (by rw [(UInt8.toNat_inj.1 hz1 : d[0] = 48)]) k
        · have := congrArg List.length k
          simp at this
          have : d.size = d.data.size := rfl
          omega))
    have e48 : ((d[0].toNat : Int) == 48) = true := by rw [hz1]; rfl
    clear HX1 HX2 HX3 hz1 hhead
    go_enter Tryd.func7, Tryd.ntmps7
    go_wp2
    go_ret2
    exact ⟨by rw [HE.out.1, HE.out.2]; rfl, rfl⟩
  have HD : Hid ((∀ c ∈ d.data.toList, digB c = true) → digits d.data.toList = true) := fun h => by
    refine (digits_iff _).2 ⟨fun e => ?_, h, ?_⟩
    · rw [e] at hhead; cases hhead
    · by_cases h1 : d[0].toNat = 48
      · refine .inr ?_
        have hs1 : d.size = 1 := by omega
        have : d.data.toList = [d[0]] := by
          apply List.ext_getElem
          · simp; exact hs1
          · intro i h1 h2
            simp at h2
            subst h2
            rfl
        rw [this, (UInt8.toNat_inj.1 h1 : d[0] = 48)]
      · refine .inl ?_
        rw [hhead]
        intro e
        injection e with e
        exact h1 (by rw [e]; rfl)
  have hcond : (((d[0].toNat : Int) == 48) = false ∧ 1 < d.size) ∨ (¬ 1 < d.size) := by
    by_cases h1 : 1 < d.size
    · refine .inl ⟨?_, h1⟩
      rw [beq_eq_false_iff_ne]
      intro e
      exact hz ⟨by omega, h1⟩
    · exact .inr h1
  clear hz hhead
  have hz0 : ((d.size : Int) == 0) = false := by rw [beq_eq_false_iff_ne]; omega
  rcases hcond with ⟨k1, k2⟩ | k2
  all_goals
    go_enter Tryd.func7, Tryd.ntmps7
    go_wp2
    go_loop [5] (fun a5 => ∃ k : Nat, k ≤ d.size ∧ a5 = .int .i64 k ∧ Hid (Dig d k)) (fun a5 => d.size - (intOf a5).toNat)
    case atStart => exact ⟨0, Nat.zero_le _, rfl, Dig.none d⟩
    case round =>
      obtain ⟨k, hk, rfl, HK⟩ := hrel
      by_cases hlt : k < d.size
      · have HP := Lib.hid (fun W => rdigit_any d[k] W)
        cases hc : digB d[k] with
        | false =>
          rw [hc] at HP
          have HE := Lib.hid (HX1.out (no_digits hlt hc))
          clear hc
          go_wp2_with (go_at_call 16; refine (HP.out _).mono ?_; rintro e w' ⟨rfl, rfl⟩)
          go_ret2
          exact ⟨by rw [HE.out.1, HE.out.2]; rfl, rfl⟩
        | true =>
          rw [hc] at HP
          have HK2 := Lib.hid (HK.out.next hlt hc)
          clear hc
          go_wp2_with (go_at_call 16; refine (HP.out _).mono ?_; rintro e w' ⟨rfl, rfl⟩)
          go_round
          case rel => exact ⟨k + 1, by omega, by go_num, HK2.out⟩
          case measure => simp [intOf]; omega
      · obtain rfl : k = d.size := by omega
        have hall : ∀ c ∈ d.data.toList, digB c = true := fun c hc => HK.out.all c (by rw [List.take_of_length_le (by simp)]; exact hc)
        have hdg := HD.out hall
        have hmd := most_digits d.data.toList mostP hdg rfl mostP_dig (by rw [mostP_num]; decide)
        rw [mostP_num] at hmd
        have hln : d.data.toList.length = d.size := by simp
        rw [hln] at hmd
        have HDG := Lib.hid hdg
        clear HD HX1 hln hdg HK
        by_cases hm : num d.data.toList ≤ 9223372036854775807
        · have HE := Lib.hid (HX3.out HDG.out hm)
          have hno : ¬ (19 < d.size ∨ d.size = 19 ∧ (Op.bytesLess d.data.toList mostP || d.data.toList == mostP) = false) := fun e => by have := hmd.1 e; omega
          have h19 : d.size < 19 ∨ (d.size = 19 ∧ (Op.bytesLess d.data.toList mostP || d.data.toList == mostP) = true) := by
            rcases Nat.lt_trichotomy d.size 19 with h | h | h
            · exact .inl h
            · refine .inr ⟨h, ?_⟩
              cases hb : (Op.bytesLess d.data.toList mostP || d.data.toList == mostP) with
              | true => rfl
              | false => exact absurd (.inr ⟨h, hb⟩) hno
            · exact absurd (.inl h) hno
          have HM : Hid (num d.data.toList ≤ 9223372036854775807) := hm
          have HALL := Lib.hid hall
          clear hmd hno HX2 HX3 hall hm hlt
          have htl : d.toList = d.data.toList := Lib.toList_data d
          have h3 : (d.size < 19 ∧ ((d.size : Int) == 19) = false) ∨ (((d.size : Int) == 19) = true ∧ Op.bytesLess d.toList [57, 50, 50, 51, 51, 55, 50, 48, 51, 54, 56, 53, 52, 55, 55, 53, 56, 48, 55] = true) ∨ (((d.size : Int) == 19) = true ∧ (d.toList == [57, 50, 50, 51, 51, 55, 50, 48, 51, 54, 56, 53, 52, 55, 55, 53, 56, 48, 55]) = true) := by
            rw [htl]
            rcases h19 with h | ⟨h, hg⟩
            · exact .inl ⟨h, by rw [beq_eq_false_iff_ne]; omega⟩
            · rw [Bool.or_eq_true] at hg
              rcases hg with hg | hg
              · exact .inr (.inl ⟨by rw [h]; rfl, hg⟩)
              · exact .inr (.inr ⟨by rw [h]; rfl, hg⟩)
          have a1 : ¬ 19 < d.size := by rcases h19 with h | ⟨h, _⟩ <;> omega
          clear h19 htl
          rcases h3 with ⟨_, a2⟩ | ⟨a2, hgt⟩ | ⟨a2, hgt⟩
          all_goals
            go_wp2
            go_loop [7, 8] (fun a7 a8 => ∃ (k : Nat) (y : Int), k ≤ d.size ∧ a8 = .int .i64 k ∧ a7 = .int .i64 y ∧ Hid (y = (num (d.data.toList.take k) : Int))) (fun _ a8 => d.size - (intOf a8).toNat)
            case atStart => exact ⟨0, 0, Nat.zero_le _, rfl, rfl, by rw [Hid]; rfl⟩
            case round =>
              obtain ⟨k, y, hk2, rfl, rfl, HY⟩ := hrel
              by_cases hlt : k < d.size
              · have hc := (digB_iff d[k]).1 (HALL.out d[k] (List.getElem_mem (by simpa using hlt)))
                have hs := num_take_snoc d k hlt
                have hle := num_take d.data.toList (k + 1)
                have hM := HM.out
                have hy := HY.out
                have w1 : IntKind.i64.wrap (y * 10) = y * 10 := IntWalk.i64_in _ (by omega)
                have w2 : IntKind.i64.wrap (y * 10 + ((d[k].toNat : Int) - 48)) = y * 10 + ((d[k].toNat : Int) - 48) := IntWalk.i64_in _ (by omega)
                have HY2 : Hid (y * 10 + ((d[k].toNat : Int) - 48) = (num (d.data.toList.take (k + 1)) : Int)) := by rw [Hid]; omega
                have c0 : (48 : Int) ≤ (d[k].toNat : Int) := by omega
                have c1 : (d[k].toNat : Int) ≤ 57 := by omega
                clear hc hs hle hM hy
                go_wp2
                go_round
                case rel => exact ⟨k + 1, y * 10 + ((d[k].toNat : Int) - 48), by omega, by go_num, rfl, HY2.out⟩
                case measure => simp [intOf]; omega
              · obtain rfl : k = d.size := by omega
                have HV : Hid (v = y) := by rw [Hid, HE.out.1, HY.out, List.take_of_length_le (by simp)]
                have HX := Lib.hid HE.out.2
                clear hlt HE
                go_wp2
                go_ret2
                exact ⟨by rw [HV.out, HX.out]; rfl, rfl⟩
        · have HE := Lib.hid (HX2.out HDG.out hm)
          have h19 := hmd.2 (by omega)
          clear hmd HX2 HX3 hall hm hlt
          rcases h19 with h | ⟨h, hg⟩
          · go_wp2
            all_goals
              go_ret2
              exact ⟨by rw [HE.out.1, HE.out.2]; rfl, rfl⟩
          · have htl : d.toList = d.data.toList := Lib.toList_data d
            rw [← htl, Bool.or_eq_false_iff] at hg
            obtain ⟨g1, g2⟩ := hg
            have g1' : Op.bytesLess d.toList [57, 50, 50, 51, 51, 55, 50, 48, 51, 54, 56, 53, 52, 55, 55, 53, 56, 48, 55] = false := g1
            have g2' : (d.toList == [57, 50, 50, 51, 51, 55, 50, 48, 51, 54, 56, 53, 52, 55, 55, 53, 56, 48, 55]) = false := g2
            clear g1 g2 htl
            have a1 : ¬ 19 < d.size := by omega
            have a2 : ((d.size : Int) == 19) = true := by rw [h]; rfl
            clear h
            go_wp2
            go_ret2
            exact ⟨by rw [HE.out.1, HE.out.2]; rfl, rfl⟩
theorem rwhole_any (s : ByteArray) (w : World) (hs : s.size ≤ 9000000) : Calls Tryd.prog 7 #[.string s] w fun e w' => e = .returned (.tuple #[.int .i64 (wholeV s.data.toList), .int .i64 (wholeE s.data.toList)]) ∧ w = w' := by
  cases hm : minus s.data.toList with
  | true =>
    obtain ⟨r, hr⟩ := minus_of hm
    obtain rfl : s = bs (45 :: r) := ByteArray.ext (Array.toList_inj.1 (by rw [hr]; simp [bs]))
    have hz := bs_size (45 :: r)
    have hzr := bs_size r
    rw [List.length_cons] at hz
    obtain ⟨p1, p2, p3, p4⟩ := bs_cons 45 r
    have h := rwhole_minus (bs r) (bs (45 :: r)) w (by omega) p1 p2 p3 p4
    rw [bs_toList] at h
    rw [bs_toList]
    have e1 : wholeV (45 :: r) = if digits r = true ∧ num r ≤ 9223372036854775808 then -(num r : Int) else 0 := by
      rw [wholeV, behind_minus]; rfl
    have e2 : wholeE (45 :: r) = if digits r = true then (if num r ≤ 9223372036854775808 then 0 else 7) else 12 := by
      rw [wholeE, behind_minus]; rfl
    rw [e1, e2]
    exact h
  | false =>
    have hb := behind_other _ (minus_no hm)
    have hn : s.size = 0 ∨ ∃ h : 0 < s.size, s[0].toNat ≠ 45 := by
      by_cases h0 : s.size = 0
      · exact .inl h0
      · refine .inr ⟨by omega, fun e => ?_⟩
        have h1 := List.drop_eq_getElem_cons (l := s.data.toList) (i := 0) (by simp; omega)
        rw [List.drop_zero] at h1
        refine minus_no hm (s.data.toList.drop 1) (h1.trans ?_)
        congr 1
        exact UInt8.toNat_inj.1 e
    have h := rwhole_plain s w hs hn
    have hmo : most s.data.toList = 9223372036854775807 := by rw [most, hm]; rfl
    have e1 : wholeV s.data.toList = if digits s.data.toList = true ∧ num s.data.toList ≤ 9223372036854775807 then (num s.data.toList : Int) else 0 := by
      rw [wholeV, hb, hmo, hm]; rfl
    have e2 : wholeE s.data.toList = if digits s.data.toList = true then (if num s.data.toList ≤ 9223372036854775807 then 0 else 7) else 12 := by
      rw [wholeE, hb, hmo]
    rw [e1, e2]
    exact h
end Go.Proofs.YtajmhllldocpjaaDoor
